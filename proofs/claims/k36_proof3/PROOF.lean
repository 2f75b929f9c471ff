import PyProof.Rows.All
import Wide.All
import OpenK.AllK
import Wide.FinOn
import Lean
import PyProof.EqAt
import PyProof.EqKinds
import PyProof.TupleCall
import PyProof.DictWalks
import PyProof.ExcAttrAll.ValueError
import PyProof.ExcBaseAll.ValueError
import PyProof.ZipIter
import PyProof.SumWalk
import PySem.Challenge.RW_ownshelf_k36_deeds_refused
set_option Elab.async false
set_option linter.all false
set_option maxRecDepth 100000
noncomputable section
namespace L2
open PySem PySem.Spec PyProof.Rows

abbrev Key:=Sum Int Str
def keyIs:Key→Value→Bool
 | .inl k,v=>Value.isInt k v
 | .inr x,v=>Value.isStrOf x v
def keyH (w:World):Key→Int
 | .inl k=>hashInt k
 | .inr x=>hashStr w x
theorem zdl:∀{k:Key}{v:Value},keyIs k v=true→(∃i t,k=Sum.inl i∧v=Value.int i t)∨(∃x t,k=Sum.inr x∧v=Value.str x t)
 | .inl i,v,h=>by
   obtain ⟨t,e⟩:=Value.isInt_shape (k:=i) (v:=v) h
   exact .inl ⟨i,t,rfl,e⟩
 | .inr x,v,h=>by
   obtain ⟨t,e⟩:=Value.isStrOf_shape (x:=x) (v:=v) h
   exact .inr ⟨x,t,rfl,e⟩
theorem key_ll (a b:Int):decide ((Sum.inl a:Key)=Sum.inl b)=(a == b):=by
 by_cases e:a=b
 · subst e;simp
 · have h:¬ (Sum.inl a:Key)=Sum.inl b:=fun q=>e (Sum.inl.inj q)
   rw [decide_eq_false h]
   exact (beq_eq_false_iff_ne.mpr e).symm
theorem key_rr (a b:Str):decide ((Sum.inr a:Key)=Sum.inr b)=decide (a=b):=by
 by_cases e:a=b
 · subst e;simp
 · have h:¬ (Sum.inr a:Key)=Sum.inr b:=fun q=>e (Sum.inr.inj q)
   rw [decide_eq_false h,decide_eq_false e]
theorem key_lr (a:Int) (b:Str):decide ((Sum.inl a:Key)=Sum.inr b)=false:=decide_eq_false (fun q=>nomatch q)
theorem key_rl (a:Str) (b:Int):decide ((Sum.inr a:Key)=Sum.inl b)=false:=decide_eq_false (fun q=>nomatch q)

def mixKind (prog:Program) (w:World):PySem.KeyKind prog w Key where
 is:=keyIs
 hash:=keyH w
 inj:=fun v a b ha hb=>by
   rcases zdl ha with ⟨i,t,rfl,rfl⟩ | ⟨x,t,rfl,rfl⟩
   · rcases zdl hb with ⟨j,u,rfl,e⟩ | ⟨y,u,rfl,e⟩
     · injection e with e1 _;rw [e1]
     · exact nomatch e
   · rcases zdl hb with ⟨j,u,rfl,e⟩ | ⟨y,u,rfl,e⟩
     · exact nomatch e
     · injection e with e1 _;rw [e1]
 byValue:=fun k v h=>by
   rcases zdl h with ⟨i,t,rfl,rfl⟩ | ⟨x,t,rfl,rfl⟩ <;> rfl
 pyHash:=fun hv h=>by
   rcases zdl hv with ⟨i,t,rfl,rfl⟩ | ⟨x,t,rfl,rfl⟩
   · exact wpAny_pyHash_int h
   · exact wpAny_pyHash_str h
 eqBool:=fun hu hv h=>by
   rcases zdl hu with ⟨i,t,rfl,rfl⟩ | ⟨x,t,rfl,rfl⟩
   · rcases zdl hv with ⟨j,u,rfl,rfl⟩ | ⟨y,u,rfl,rfl⟩
     · rw [key_ll] at h;exact wpAny_eqBool_int h
     · rw [key_lr] at h;exact SeqAt.EqAt.int_str i t y u _ _ _ _ h
   · rcases zdl hv with ⟨j,u,rfl,rfl⟩ | ⟨y,u,rfl,rfl⟩
     · rw [key_rl] at h;exact SeqAt.EqAt.str_int x t j u _ _ _ _ h
     · rw [key_rr] at h;exact wpAny_eqBool_str h
 «strs»:=fun k x t v h=>by
   rcases zdl h with ⟨i,u,rfl,e⟩ | ⟨y,u,rfl,e⟩
   · exact nomatch e
   · injection e with e1 _
     subst e1
     cases v <;> rfl

end L2

namespace L2
open PySem PySem.Spec PyProof.Rows

inductive V where
 | non | bl (b:Bool) | int (i:Int) | str (x:Str) | byt (b:Array UInt8) | flt (b:UInt64) | ref (a:Addr) | ty (n:String)
 deriving DecidableEq

def RelV:V→Value→Prop
 | .non,u=>u=Value.none
 | .bl b,u=>u=Value.bool b
 | .int i,u=>∃t,u=Value.int i t
 | .str x,u=>∃t,u=Value.str x t
 | .byt b,u=>∃t,u=Value.bytes b t
 | .flt b,u=>∃t,u=Value.float b t
 | .ref a,u=>u=Value.ref a
 | .ty n,u=>u=Value.type n

abbrev Vals:List V→List Value→Prop:=Paired RelV
theorem Vals.length {xs:List V}{us:List Value} (r:Vals xs us):xs.length=us.length:=Paired.length r
theorem Vals.get:∀{xs:List V}{us:List Value}{i:Nat}{x:V},Vals xs us→xs[i]? = some x→∃u,us[i]? = some u∧RelV x u
 | _,_,_,_,.nil,e=>by simp at e
 | _,_,0,_,.cons r _,e=>by simp at e;subst e;exact ⟨_,rfl,r⟩
 | _,_,i + 1,x,.cons _ t,e=>by
   obtain ⟨u,h1,h2⟩:=Vals.get (i:=i) (x:=x) t (by simpa using e)
   exact ⟨u,by simpa using h1,h2⟩
theorem Vals.set {x:V}{u:Value} (r:RelV x u):∀{xs:List V}{us:List Value} (i:Nat),Vals xs us→Vals (xs.set i x) (us.set i u)
 | _,_,_,.nil=>.nil
 | _,_,0,.cons _ t=>.cons r t
 | _,_,i + 1,.cons q t=>.cons q (Vals.set r i t)
theorem Vals.append:∀{xs ys:List V}{us ws:List Value},Vals xs us→Vals ys ws→Vals (xs++ys) (us++ws)
 | _,_,_,_,.nil,s=>s
 | _,_,_,_,.cons r t,s=>.cons r (Vals.append t s)
theorem Vals.take:∀{xs:List V}{us:List Value} (n:Nat),Vals xs us→Vals (xs.take n) (us.take n)
 | _,_,0,_=>.nil
 | _,_,_ + 1,.nil=>.nil
 | _,_,n + 1,.cons r t=>.cons r (Vals.take n t)
theorem Vals.drop:∀{xs:List V}{us:List Value} (n:Nat),Vals xs us→Vals (xs.drop n) (us.drop n)
 | _,_,0,r=>r
 | _,_,_ + 1,.nil=>.nil
 | _,_,n + 1,.cons _ t=>Vals.drop n t
def RelO:Option V→Option Value→Prop
 | some v,some u=>RelV v u
 | none,none=>True
 | _,_=>False
def KV {κ:Type}:List (κ×V)→List (κ×Value)→Prop:=Paired fun (p:κ×V) (q:κ×Value)=>p.1=q.1∧RelV p.2 q.2

def kV:Key→V
 | .inl i=>.int i
 | .inr x=>.str x

inductive HO where
   | lst (xs:List V)
   | tup (xs:List V)
   | dK (kvs:List (Key×V)) | dT (kvs:List (List Key×V))
   | set (S:Int→Bool) (n:Nat)
   | ins (C dx:Addr) (fs:List (Str×V))
   | own (x:Addr)
   | xd (fs:List (Str×V))
   | met (f x:Addr)
   | rng (lo hi:Int)
   | frz (o:Obj) (u:HO)
   | tbl (ps:Array Value)
   | ext (φ:Heap→Prop)

abbrev Hp:=Addr→Option HO
def upd (H:Hp) (a:Addr) (o:HO):Hp:=fun b=>if b=a then some o else H b
theorem zda {H:Hp}{a:Addr}{o:HO}:upd H a o a=some o:=by unfold upd;rw [if_pos rfl]
theorem zcc {H:Hp}{a b:Addr}{o:HO} (h:b≠a):upd H a o b=H b:=by unfold upd;rw [if_neg h]
theorem zcn {H:Hp}{a b:Addr}{o:HO} (h:H a=some o) (h':H b=none):a≠b:=by
 intro e;subst e;rw [h] at h';cases h'

section
variable (P:Program) (w:World)
def ObjOk (H:Hp) (h:Heap) (a:Addr):HO→Prop
 | .lst xs=>xs.length≤sizeLine∧∃(its:List Value) (n:Nat),Vals xs its∧h.get? a=some { cls:=.type "list",data:=.seq its.toArray n }
 | .tup xs=>xs.length≤sizeLine∧∃its:List Value,Vals xs its∧IsTup h a its.toArray
 | .dK kvs=>kvs.length≤sizeLine∧(a == sysModules)=false∧∃vs,KV kvs vs∧h.DictOf (mixKind P w) a vs
 | .dT kvs=>kvs.length≤sizeLine∧(a == sysModules)=false∧∃xs:List (List Key×Addr×Value),
     Paired (fun (p:List Key×V) (q:List Key×Addr×Value)=>p.1=q.1∧H q.2.1=some (.tup (p.1.map kV))∧RelV p.2 q.2.2) kvs xs ∧
     ∃o es ep,h.get? a=some o∧o.ExactDict∧o.data=.dict es ep∧es.toList=xs.map (entryOfKey (tupleKind (mixKind P w)))∧(xs.map (·.1)).Nodup
 | .set S n=>h.SetOf (intKind P w) a S n
 | .ins C dx fs=>H dx=some (.own a)∧fs.length≤1000∧dx≠a∧h.get? a=some (PySem.W.instObj C dx) ∧
     ∃mA,h.Ns1 dx mA∧(∀f,RelO (fs.lookup f) (mA f))∧PySem.Within mA (fs.map (·.1))
 | .own _=>∃o,h.get? a=some o
 | .xd fs=>∃mA,h.Ns1 a mA∧∀f,RelO (fs.lookup f) (mA f)
 | .rng lo hi=>∃t u v,h.get? a=some { cls:=.type "range",data:=.fields #[.int lo t,.int hi u,.int 1 v] }
 | .frz o u=>h.get? a=some o∧ObjOk H h a u
 | .tbl ps=>h.get? a=some { cls:=.none,data:=.fields ps }
 | .met f x=>h.get? a=some (PySem.W.methodObj (.ref f) (.ref x))
 | .ext φ=>φ h∧(∃o,h.get? a=some o)∧∀h1 h2:Heap,φ h1→(∀o,h1.get? a=some o→h2.get? a=some o)→φ h2
def HOk (H:Hp) (h:Heap):Prop:=∀a o,H a=some o→ObjOk P w H h a o
end

section
variable {P:Program}{w:World}{H H':Hp}{h h':Heap}{a:Addr}{o:HO}
theorem ObjOk.lt (x:ObjOk P w H h a o):a < h.objs.size:=by
 cases o with
 | lst xs=>obtain ⟨_,_,_,_,e⟩:=x;exact Heap.lt_size e
 | tup xs=>obtain ⟨_,_,_,p⟩:=x;exact p.lt
 | dK kvs=>obtain ⟨_,_,_,_,o,_,_,e,_⟩:=x;exact Heap.lt_size e
 | dT kvs=>obtain ⟨_,_,_,_,o,_,_,e,_⟩:=x;exact Heap.lt_size e
 | set S n=>obtain ⟨o,_,_,_,e,_⟩:=x;exact Heap.lt_size e
 | ins C dx fs=>obtain ⟨_,_,_,e,_⟩:=x;exact Heap.lt_size e
 | own y=>obtain ⟨_,e⟩:=x;exact Heap.lt_size e
 | xd fs=>obtain ⟨_,⟨_,_,_,e,_⟩,_⟩:=x;exact Heap.lt_size e
 | rng lo hi=>obtain ⟨_,_,_,e⟩:=x;exact Heap.lt_size e
 | frz ob u=>obtain ⟨e,_⟩:=x;exact Heap.lt_size e
 | tbl ps=>exact Heap.lt_size (show h.get? a=some _ from x)
 | met f y=>exact Heap.lt_size (show h.get? a=some _ from x)
 | ext φ=>obtain ⟨_,⟨_,e⟩,_⟩:=x;exact Heap.lt_size e
theorem Paired.mapP {α β:Type}{F G:α→β→Prop}:∀{l₁:List α}{l₂:List β},Paired F l₁ l₂→(∀a b,F a b→G a b)→Paired G l₁ l₂
 | _,_,.nil,_=>.nil
 | _,_,.cons r t,f=>.cons (f _ _ r) (Paired.mapP t f)
theorem ObjOk.stay (x:ObjOk P w H h a o) (k:∀b u,(b=a∨H b=some (.own a))→h.get? b=some u→h'.get? b=some u)
   (ho:∀b,H b=some (.own a)→H' b=some (.own a)) (ht:∀b xs,H b=some (.tup xs)→H' b=some (.tup xs)):ObjOk P w H' h' a o:=by
 induction o with
 | lst xs=>obtain ⟨z,its,n,r,e⟩:=x;exact ⟨z,its,n,r,k _ _ (.inl rfl) e⟩
 | tup xs=>obtain ⟨z,its,r,ob,e,c⟩:=x;exact ⟨z,its,r,ob,k _ _ (.inl rfl) e,c⟩
 | dK kvs=>obtain ⟨z,y,vs,r,ob,es,ep,e,c⟩:=x;exact ⟨z,y,vs,r,ob,es,ep,k _ _ (.inl rfl) e,c⟩
 | dT kvs =>
   obtain ⟨z,y,xs,r,ob,es,ep,e,c⟩:=x
   exact ⟨z,y,xs,Paired.mapP r fun p q z=>⟨z.1,ht _ _ z.2.1,z.2.2⟩,ob,es,ep,k _ _ (.inl rfl) e,c⟩
 | set S n=>obtain ⟨ob,es,ep,t,e,c⟩:=x;exact ⟨ob,es,ep,t,k _ _ (.inl rfl) e,c⟩
 | ins C dx fs =>
   obtain ⟨d,z,ne,e,mA,⟨od,es,ep,e2,c⟩,r⟩:=x
   exact ⟨ho _ d,z,ne,k _ _ (.inl rfl) e,mA,⟨od,es,ep,k _ _ (.inr d) e2,c⟩,r⟩
 | own y=>obtain ⟨ob,e⟩:=x;exact ⟨ob,k _ _ (.inl rfl) e⟩
 | xd fs=>obtain ⟨mA,⟨od,es,ep,e,c⟩,r⟩:=x;exact ⟨mA,⟨od,es,ep,k _ _ (.inl rfl) e,c⟩,r⟩
 | rng lo hi=>obtain ⟨t,u,v,e⟩:=x;exact ⟨t,u,v,k _ _ (.inl rfl) e⟩
 | frz ob u ih=>obtain ⟨e,q⟩:=x;exact ⟨k _ _ (.inl rfl) e,ih q⟩
 | tbl ps =>
   have e:h.get? a=some { cls:=.none,data:=.fields ps }:=x
   show h'.get? a=some { cls:=.none,data:=.fields ps }
   exact k a _ (.inl rfl) e
 | met f y =>
   have e:h.get? a=some (PySem.W.methodObj (.ref f) (.ref y)):=x
   show h'.get? a=some (PySem.W.methodObj (.ref f) (.ref y))
   exact k a _ (.inl rfl) e
 | ext φ=>obtain ⟨p,⟨o,e⟩,st⟩:=x;exact ⟨st _ _ p fun o q=>k _ _ (.inl rfl) q,⟨o,k _ _ (.inl rfl) e⟩,st⟩
theorem HOk.lt (x:HOk P w H h) (e:H a=some o):a < h.objs.size:=(x a o e).lt
theorem HOk.fresh (x:HOk P w H h) (e:h.objs.size≤a):H a=none:=by
 cases q:H a with
 | none=>rfl
 | some u=>exact absurd (Nat.lt_of_lt_of_le (x.lt q) e) (Nat.lt_irrefl _)
theorem HOk.kept (x:HOk P w H h) (k:∀b u,h.get? b=some u→h'.get? b=some u):HOk P w H h':=fun a o e =>
 (x a o e).stay (fun b u _ q=>k b u q) (fun _ q=>q) fun _ _ q=>q
theorem HOk.laid (x:HOk P w H h) (k:∀b u,h.get? b=some u→h'.get? b=some u) (hp:h.objs.size≤a) (new:ObjOk P w (upd H a o) h' a o):HOk P w (upd H a o) h':=fun b u e=>by
 have hn:=x.fresh hp
 by_cases hb:b=a
 · subst hb;rw [zda] at e;cases e;exact new
 · rw [zcc hb] at e
   exact (x b u e).stay (fun c v _ q=>k c v q) (fun c q=>by rw [zcc (zcn q hn)];exact q) fun c xs q=>by rw [zcc (zcn q hn)];exact q
end

def Rd (H:Hp) (a:Addr) (u:HO):Prop:=H a=some u∨∃o,H a=some (.frz o u)
theorem Rd.ok {P:Program}{w:World}{H:Hp}{h:Heap}{a:Addr}{u:HO} (r:Rd H a u) (x:HOk P w H h):ObjOk P w H h a u:=by
 rcases r with r | ⟨o,r⟩
 · exact x a u r
 · obtain ⟨_,q⟩:=x a _ r
   exact q
def Mut:Option HO→Prop
 | some (.lst _)=>True
 | some (.dK _)=>True
 | some (.dT _)=>True
 | some (.set _ _)=>True
 | some (.ins _ _ _)=>True
 | some (.ext _)=>True
 | _=>False
section
variable {P:Program}{w:World}{H:Hp}{h h':Heap}{x e:Addr}{o':HO}
theorem HOk.write (ok:HOk P w H h) (mu:Mut (H x)) (he:e=x∨H e=some (.own x)) (k:∀b u,b≠e→h.get? b=some u→h'.get? b=some u) (heo:∃u,h'.get? e=some u)
   (new:ObjOk P w (upd H x o') h' x o'):HOk P w (upd H x o') h':=fun b u q=>by
 have nown:∀c y,H c=some (.own y)→c≠x:=fun c y r z=>by subst z;rw [r] at mu;exact mu
 have ntup:∀c xs,H c=some (.tup xs)→c≠x:=fun c xs r z=>by subst z;rw [r] at mu;exact mu
 by_cases hb:b=x
 · subst hb;rw [zda] at q;cases q;exact new
 · rw [zcc hb] at q
   by_cases hbe:b=e
   · have q':H b=some (.own x):=by
       rcases he with z | z
       · exact absurd (hbe.trans z) hb
       · rw [hbe];exact z
     rw [q] at q';cases q'
     obtain ⟨v,hv⟩:=heo
     exact ⟨v,by rw [hbe];exact hv⟩
   · refine (ok b u q).stay (fun c v hc r=>k c v ?_ r) (fun c r=>by rw [zcc (nown c b r)];exact r) fun c xs r=>by rw [zcc (ntup c xs r)];exact r
     rcases hc with rfl | hc
     · exact hbe
     · rintro rfl
       rcases he with z | z
       · exact nown c b hc z
       · rw [hc] at z;cases z;exact hb rfl
end

structure Un (fs ex:List Addr) (H H':Hp) (h h':Heap):Prop where
 keep:∀b o,h.get? b=some o→H b=none→b∉fs→b∉ex→h'.get? b=some o
 slot:∀b o,h.get? b=some o→H b=none→b∈fs→b∉ex→∃sl,h'.get? b=some { o with slots:=sl }
 free:∀b o,h.get? b=some o→H b=none→b∉ex→H' b=none
 there:∀b o,h.get? b=some o→b∉ex→∃o',h'.get? b=some o'
 tups:∀b xs,H b=some (.tup xs)→H' b=some (.tup xs)
 frzs:∀b o u,H b=some (.frz o u)→H' b=some (.frz o u)
 tbls:∀b ps,H b=some (.tbl ps)→∃more,H' b=some (.tbl (ps++more))
section
variable {fs fs' ex ex':List Addr}{H H1 H2:Hp}{h h1 h2 h':Heap}{a x e:Addr}{o:HO}
theorem Un.any (u:Un fs ex H H1 h h1) {b:Addr}{ob:Obj} (q:h.get? b=some ob) (n:H b=none) (hx:b∉ex):∃sl,h1.get? b=some { ob with slots:=sl }:=by
 by_cases hb:b∈fs
 · exact u.slot b ob q n hb hx
 · exact ⟨ob.slots,u.keep b ob q n hb hx⟩
theorem Un.kept (k:∀b u,h.get? b=some u→h'.get? b=some u):Un fs ex H H h h' :=
 ⟨fun b ob q _ _ _=>k b ob q,fun b ob q _ _ _=>⟨ob.slots,k b ob q⟩,fun _ _ _ n _=>n,fun b ob q _=>⟨ob,k b ob q⟩,fun _ _ q=>q,fun _ _ _ q=>q,fun _ ps q=>⟨#[],by rw [q];simp⟩⟩
theorem Un.refl:Un fs ex H H h h:=Un.kept fun _ _ q=>q
theorem Un.laid (k:∀b u,h.get? b=some u→h'.get? b=some u) (hp:h.objs.size≤a) (hn:H a=none):Un fs ex H (upd H a o) h h' where
 keep:=fun b u q _ _ _=>k b u q
 slot:=fun b u q _ _ _=>⟨u.slots,k b u q⟩
 free:=fun b u q n _=>by rw [zcc (Nat.ne_of_lt (Nat.lt_of_lt_of_le (Heap.lt_size q) hp))];exact n
 there:=fun b u q _=>⟨u,k b u q⟩
 tups:=fun b xs q=>by rw [zcc (zcn q hn)];exact q
 frzs:=fun b u xs q=>by rw [zcc (zcn q hn)];exact q
 tbls:=fun b ps q=>⟨#[],by rw [zcc (zcn q hn),q];simp⟩
theorem Un.write (mu:Mut (H x)) (he:e=x∨H e=some (.own x)) (k:∀b u,b≠e→h.get? b=some u→h'.get? b=some u) (heo:∃u,h'.get? e=some u):Un fs ex H (upd H x o) h h':=by
 have hx:∀b,H b=none→b≠x:=fun b n z=>by subst z;rw [n] at mu;exact mu
 have hb:∀b,H b=none→b≠e:=fun b n z=>by
   subst z
   rcases he with r | r
   · exact hx b n r
   · rw [n] at r;cases r
 have hm:∀b u,H b=some u→¬ Mut (some u)→b≠x:=fun b u q nm z=>by subst z;rw [q] at mu;exact nm mu
 refine ⟨fun b u q n _ _=>k b u (hb b n) q,fun b u q n _ _=>⟨u.slots,k b u (hb b n) q⟩,fun b u q n _=>by rw [zcc (hx b n)];exact n,fun b u q _=>?_,
   fun b xs q=>by rw [zcc (hm b _ q fun z=>z)];exact q,fun b u xs q=>by rw [zcc (hm b _ q fun z=>z)];exact q,fun b ps q=>⟨#[],by rw [zcc (hm b _ q fun z=>z),q];simp⟩⟩
 by_cases hbe:b=e
 · subst hbe;exact heo
 · exact ⟨u,k b u hbe q⟩
end

def trk (h:Heap) (H:Hp):List Addr:=(List.range h.objs.size).filter fun a=>(H a).isSome
def hidT (h:Heap) (H:Hp):Heap:=PySem.W.hideAll h (trk h H)
theorem hidT_size (h:Heap) (H:Hp):(hidT h H).objs.size=h.objs.size:=PySem.W.hideAll_size _ _
theorem hidT_get {h:Heap}{H:Hp}{b:Addr}{o:Obj} (e:h.get? b=some o) (n:H b=none):(hidT h H).get? b=some o :=
 PySem.W.hideAll_get _ e fun hm=>by
   have q:(H b).isSome=true:=(List.mem_filter.mp hm).2
   rw [n] at q;simp at q
theorem of_hidT {h:Heap}{H:Hp}{b:Addr}{o:Obj} (e:(hidT h H).get? b=some o):h.get? b=some o∧H b=none:=by
 have e':h.get? b=some o:=PySem.W.of_hideAll (trk h H) e
 refine ⟨e',?_⟩
 cases q:H b with
 | none=>rfl
 | some x =>
   have hm:b∈trk h H:=List.mem_filter.mpr ⟨List.mem_range.mpr (Heap.lt_size e'),by simp [q]⟩
   have z:(hidT h H).get? b=none:=PySem.W.hideAll_none (trk h H) hm
   rw [z] at e;cases e

def allNews (g h:Heap) (L:Addr):List (Addr×Obj):=(List.range h.objs.size).filterMap fun a=>if a=L∨(g.get? a).isSome=true then none else (h.get? a).map fun o=>(a,o)
def rest (g h:Heap) (L d:Addr):List (Addr×Obj):=(allNews g h L).filter fun p=>decide (p.1≠d)
end L2

namespace L2
open PySem PySem.Spec PyProof.Rows

structure Mod (K:PySem.W.Frag) (mg:Str→Option Value) (base:Heap):Prop where
 kin:K.In base
 glob:base.Ns mainGlobals mg
 blt:∃mb,base.Ns builtinsNs mb∧∀x:Str,x≠"__name__"→mb x=bootBuiltins x
 nolimit:base.NoLimit

structure Cx where
 prog:Program
 w:World
 K:PySem.W.Frag
 mg:Str→Option Value
 base:Heap
 A:Around
 N:List Str
 s₀:Shared
 H₀:Hp
 env:Env
 outer:List Env
 stack:List Env
 ex:List Addr
 fn:Str→Bool
 calm:Bool
 pn:List (Addr×Obj)
 xe:Value→Shared→Prop
def frs (l:List Env):List Addr:=l.filterMap (·.frame)
abbrev Cx.fs (X:Cx):List Addr:=frs X.outer

def Vis (sc:Scope) (x:Str):Prop:=sc.names.lookup x=some .local∨sc.names.lookup x=some .cell∨sc.names.lookup x=some .free
def Loc (sc:Scope) (x:Str):Prop:=sc.names.lookup x=some .local∨sc.names.lookup x=some .cell
def Look (env:Env) (h:Heap) (m:Str→Option Value) (x:Str) (u:Value):Prop :=
 (env.kindOf x=some .local∧m x=some u)∨((env.kindOf x=some .cell∨env.kindOf x=some .free)∧∃c,env.cells.lookup x=some c∧h.IsCell c (some u))

structure Cx.Ok (X:Cx):Prop where
 mod:Mod X.K X.mg X.base
 kind:X.env.scope.kind=.function
 glob:X.env.globals=mainGlobals
 blt:X.env.builtins=builtinsNs
 above:X.s₀.heap.objs.size≤X.env.locals
 inj:∀x y c,X.env.cells.lookup x=some c→X.env.cells.lookup y=some c→x=y
 has:∀x,(X.env.kindOf x=some .cell∨X.env.kindOf x=some .free)→∃c,X.env.cells.lookup x=some c
 cab:∀x c,X.fn x=true→X.env.cells.lookup x=some c→X.s₀.heap.objs.size≤c
 hd:X.calm=true→X.A.handled=none
 frames:X.A.frames=some X.stack
 stk:X.stack=X.outer∨(X.stack=X.env::X.outer∧X.env.frame=some X.env.locals)
 exf:∀b∈X.ex,b≠X.env.locals∧∀x c,X.env.cells.lookup x=some c→c≠b
 bs:∀b o,X.base.get? b=some o→X.s₀.heap.get? b=some o∧X.H₀ b=none
 bsz:X.base.objs.size≤X.s₀.heap.objs.size
 noex:∀b o,X.base.get? b=some o→b∉X.ex
 exfs:∀b∈X.ex,b∉X.fs
 funs:X.s₀.heap.FunFrames X.base X.outer
 frf:∀b∈X.fs,X.H₀ b=none

structure Inv (X:Cx) (pins:List (Addr×Obj)) (σ:List (Option V)) (H:Hp) (s:Shared):Prop where
 ok:X.Ok
 os:s.os=X.s₀.os
 bare:AllBare s.gens
 base:Un X.fs X.ex X.H₀ H X.s₀.heap s.heap
 loc:∃m,s.heap.Ns X.env.locals m∧∀(i:Nat) (x:Str) (v:V),X.N[i]? = some x→σ[i]? = some (some v)→Vis X.env.scope x→∃u,RelV v u∧Look X.env s.heap m x u
 cell:∀x c,X.env.cells.lookup x=some c→∃v,s.heap.IsCell c v
 free:H X.env.locals=none
 freeC:∀x c,X.env.cells.lookup x=some c→H c=none
 pin:∀p∈X.pn++pins,s.heap.get? p.1=some p.2∧H p.1=none∧p.1≠X.env.locals∧p.1∉X.fs∧∀v,p.2.data≠.cell v
 hok:HOk X.prog X.w H s.heap
 len:σ.length=X.N.length

section
variable {X:Cx}{pins:List (Addr×Obj)}{σ:List (Option V)}{H H':Hp}{s:Shared}{h':Heap}

theorem Cx.Ok.nofr (ok:X.Ok) {b:Addr}{o:Obj} (e:X.base.get? b=some o):b∉X.fs:=fun hb=>by
 have:=(ok.funs.mem hb).1
 rw [e] at this;cases this
theorem Inv.bs (I:Inv X pins σ H s):∀b o,X.base.get? b=some o→s.heap.get? b=some o∧H b=none:=fun b o e =>
 ⟨I.base.keep b o (I.ok.bs b o e).1 (I.ok.bs b o e).2 (I.ok.nofr e) (I.ok.noex b o e),I.base.free b o (I.ok.bs b o e).1 (I.ok.bs b o e).2 (I.ok.noex b o e)⟩
theorem Inv.bk (I:Inv X pins σ H s):∀b o,X.base.get? b=some o→s.heap.get? b=some o:=fun b o e=>(I.bs b o e).1
theorem Inv.mod (I:Inv X pins σ H s):Mod X.K X.mg X.base:=I.ok.mod
theorem Inv.kIn (I:Inv X pins σ H s):X.K.In s.heap:=I.ok.mod.kin.keeps I.bk
theorem Inv.lt (I:Inv X pins σ H s):X.env.locals < s.heap.objs.size:=let ⟨_,hn,_⟩:=I.loc;hn.lt
theorem Inv.sz (I:Inv X pins σ H s):X.s₀.heap.objs.size≤s.heap.objs.size:=Nat.le_trans I.ok.above (Nat.le_of_lt I.lt)
theorem Inv.nofs (I:Inv X pins σ H s) {a:Addr} (h:s.heap.objs.size≤a):a∉X.fs:=fun hb=>by
 obtain ⟨_,o,ho,_⟩:=I.ok.funs.mem hb
 exact absurd (Nat.lt_of_lt_of_le (Heap.lt_size ho) (Nat.le_trans I.sz h)) (Nat.lt_irrefl _)
theorem Inv.cne (I:Inv X pins σ H s):∀x c,X.env.cells.lookup x=some c→c≠X.env.locals:=fun x c e z=>by
 obtain ⟨v,o,ho,hd⟩:=I.cell x c e
 obtain ⟨m,⟨o',es,ep,ho',hd',_⟩,_⟩:=I.loc
 rw [z,ho'] at ho;cases ho;rw [hd'] at hd;cases hd
theorem Inv.funs (I:Inv X pins σ H s):s.heap.FunFrames X.base X.outer:=by
 have all:∀(l:List Env),(∀b∈frs l,b∈X.fs)→X.s₀.heap.FunFrames X.base l→s.heap.FunFrames X.base l:=by
   intro l
   induction l with
   | nil=>intro _ _;trivial
   | cons env r ih =>
     intro hs hl
     obtain ⟨hk,⟨L,o,hf,hn,ho,hd⟩,hr⟩:=hl
     have hL:L∈X.fs:=hs L (by unfold frs;rw [List.filterMap_cons,hf];exact List.mem_cons_self)
     obtain ⟨sl,e⟩:=I.base.slot L o ho (I.ok.frf L hL) hL fun z=>I.ok.exfs L z hL
     exact ⟨hk,⟨L,_,hf,hn,e,hd⟩,ih (fun b hb=>hs b (by unfold frs;rw [List.filterMap_cons,hf];exact List.mem_cons_of_mem _ hb)) hr⟩
 exact all X.outer (fun _ hb=>hb) I.ok.funs

theorem Inv.stack (I:Inv X pins σ H s):s.heap.FunFrames X.base X.stack:=by
 rcases I.ok.stk with e | ⟨e,hf⟩
 · rw [e];exact I.funs
 · rw [e]
   obtain ⟨m,hn,_⟩:=I.loc
   refine .cons (by rw [I.ok.kind];decide) hf hn ?_ I.funs
   exact Heap.get?_none_of_le (Nat.le_trans I.ok.bsz I.ok.above)
theorem Inv.stkSub (I:Inv X pins σ H s):∀b∈frs X.stack,b∈X.env.locals::X.fs:=fun b hb=>by
 rcases I.ok.stk with e | ⟨e,hf⟩
 · rw [e] at hb;exact List.mem_cons_of_mem _ hb
 · rw [e] at hb
   unfold frs at hb
   rw [List.filterMap_cons,hf] at hb
   exact hb
theorem Inv.stkFree (I:Inv X pins σ H s):∀b∈frs X.stack,H b=none:=fun b hb=>by
 rcases List.mem_cons.mp (I.stkSub b hb) with e | hb
 · rw [e];exact I.free
 · obtain ⟨_,o,ho,_⟩:=I.ok.funs.mem hb
   exact I.base.free b o ho (I.ok.frf b hb) fun z=>I.ok.exfs b z hb

theorem Inv.step {g':Array GenState}{t':Nat}{d':Drawn}{ch:List Addr} (I:Inv X pins σ H s)
   (hch:∀b∈ch,(b∈X.ex∨X.s₀.heap.objs.size≤b)∧b≠X.env.locals∧(∀x c,X.env.cells.lookup x=some c→c≠b)∧∀p∈X.pn++pins,p.1≠b)
   (keep:∀b o,b≠X.env.locals→b∉X.fs→b∉ch→s.heap.get? b=some o→H b=none→h'.get? b=some o)
   (slot:∀b o,b≠X.env.locals→b∈X.fs→b∉ch→s.heap.get? b=some o→H b=none→∃sl,h'.get? b=some { o with slots:=sl }) (free:∀b o,b∉ch→s.heap.get? b=some o→H b=none→H' b=none)
   (there:∀b o,b∉ch→s.heap.get? b=some o→∃o',h'.get? b=some o')
   (tups:∀b xs,H b=some (.tup xs)→H' b=some (.tup xs)) (frzs:∀b o u,H b=some (.frz o u)→H' b=some (.frz o u)) (tbls:∀b ps,H b=some (.tbl ps)→∃more,H' b=some (.tbl (ps++more)))
   (ns:∀m,s.heap.Ns X.env.locals m→h'.Ns X.env.locals m) (hok:HOk X.prog X.w H' h') (hg:AllBare g') :
   Inv X pins σ H' { s with heap:=h',gens:=g',drawn:=d',toks:=t' }:=by
 have neL:∀b o,X.s₀.heap.get? b=some o→b≠X.env.locals:=fun b o e=>Nat.ne_of_lt (Nat.lt_of_lt_of_le (Heap.lt_size e) I.ok.above)
 have neC:∀b o,X.s₀.heap.get? b=some o→b∉X.ex→b∉ch:=fun b o e hx hb=>by
   rcases (hch b hb).1 with z | z
   · exact hx z
   · exact absurd (Nat.lt_of_lt_of_le (Heap.lt_size e) z) (Nat.lt_irrefl _)
 have cellK:∀x c,X.env.cells.lookup x=some c→∀v,s.heap.IsCell c v→h'.IsCell c v:=fun x c e v ⟨o,ho,hd⟩=>by
   have nch:c∉ch:=fun z=>(hch c z).2.2.1 x c e rfl
   by_cases hc:c∈X.fs
   · obtain ⟨sl,q⟩:=slot c o (I.cne x c e) hc nch ho (I.freeC x c e)
     exact ⟨_,q,hd⟩
   · exact ⟨o,keep c o (I.cne x c e) hc nch ho (I.freeC x c e),hd⟩
 refine ⟨I.ok,I.os,hg,⟨fun b o e n hb hx=>?_,fun b o e n hb hx=>?_,fun b o e n hx=>?_,fun b o e hx=>?_,fun b xs e=>tups b xs (I.base.tups b xs e),fun b o xs e=>frzs b o xs (I.base.frzs b o xs e),fun b ps e=>?_⟩,?_,fun x c e=>?_,?_,fun x c e=>?_,fun p hp=>?_,hok,I.len⟩
 · exact keep b o (neL b o e) hb (neC b o e hx) (I.base.keep b o e n hb hx) (I.base.free b o e n hx)
 · obtain ⟨sl,e1⟩:=I.base.slot b o e n hb hx
   obtain ⟨sl',e2⟩:=slot b _ (neL b o e) hb (neC b o e hx) e1 (I.base.free b o e n hx)
   exact ⟨sl',e2⟩
 · obtain ⟨o',e1⟩:=I.base.there b o e hx
   exact free b o' (neC b o e hx) e1 (I.base.free b o e n hx)
 · obtain ⟨o',e1⟩:=I.base.there b o e hx
   exact there b o' (neC b o e hx) e1
 · obtain ⟨m1,e1⟩:=I.base.tbls b ps e
   obtain ⟨m2,e2⟩:=tbls b _ e1
   exact ⟨m1++m2,by rw [e2,Array.append_assoc]⟩
 · obtain ⟨m,hn,hl⟩:=I.loc
   refine ⟨m,ns m hn,fun i x v e1 e2 e3=>?_⟩
   obtain ⟨u,r,l⟩:=hl i x v e1 e2 e3
   refine ⟨u,r,?_⟩
   rcases l with l | ⟨k,c,e,z⟩
   · exact .inl l
   · exact .inr ⟨k,c,e,cellK x c e _ z⟩
 · obtain ⟨v,z⟩:=I.cell x c e
   exact ⟨v,cellK x c e v z⟩
 · obtain ⟨m,⟨o,_,_,ho,_⟩,_⟩:=I.loc
   exact free _ o (fun z=>(hch _ z).2.1 rfl) ho I.free
 · obtain ⟨v,o,ho,hd⟩:=I.cell x c e
   exact free c o (fun z=>(hch c z).2.2.1 x c e rfl) ho (I.freeC x c e)
 · obtain ⟨e,n,ne,nf,d⟩:=I.pin p hp
   have nch:p.1∉ch:=fun z=>(hch p.1 z).2.2.2 p hp rfl
   exact ⟨keep p.1 p.2 ne nf nch e n,free p.1 p.2 nch e n,ne,nf,d⟩
theorem Inv.un {t':Nat} (I:Inv X pins σ H s) (u:Un X.fs [] H H' s.heap h') (hok:HOk X.prog X.w H' h'):Inv X pins σ H' { s with heap:=h',toks:=t' }:=by
 obtain ⟨m,⟨o,es,ep,ho,r⟩,_⟩:=id I.loc
 obtain ⟨sl,hL⟩:=u.any ho I.free (by simp)
 exact I.step (g':=s.gens) (d':=s.drawn) (ch:=[]) (fun _ z=>nomatch z) (fun b o _ hb _ e n=>u.keep b o e n hb (by simp)) (fun b o _ hb _ e n=>u.slot b o e n hb (by simp)) (fun b o _ e n=>u.free b o e n (by simp)) (fun b o _ e=>u.there b o e (by simp)) u.tups u.frzs u.tbls (fun m' hm=>by
   obtain ⟨o',es',ep',ho',r'⟩:=hm
   rw [ho] at ho';cases ho'
   exact ⟨_,es',ep',hL,r'⟩) hok I.bare
theorem Inv.call {g':Array GenState}{t':Nat}{d':Drawn}{ch:List Addr} (I:Inv X pins σ H s) (u:Un (frs X.stack) ch H H' s.heap h') (hok:HOk X.prog X.w H' h') (hg:AllBare g')
   (hch:∀b∈ch,(b∈X.ex∨X.s₀.heap.objs.size≤b)∧b≠X.env.locals∧(∀x c,X.env.cells.lookup x=some c→c≠b)∧∀p∈X.pn++pins,p.1≠b) :
   Inv X pins σ H' { s with heap:=h',gens:=g',drawn:=d',toks:=t' }:=by
 obtain ⟨m,⟨o,es,ep,ho,r⟩,_⟩:=id I.loc
 obtain ⟨sl,hL⟩:=u.any ho I.free fun z=>(hch _ z).2.1 rfl
 exact I.step (ch:=ch) hch (fun b o hL hb hc e n=>u.keep b o e n (fun z=>(List.mem_cons.mp (I.stkSub b z)).elim hL hb) hc) (fun b o _ _ hc e n=>u.any e n hc) (fun b o hc e n=>u.free b o e n hc) (fun b o hc e=>u.there b o e hc) u.tups u.frzs u.tbls (fun m' hm=>by
   obtain ⟨o',es',ep',ho',r'⟩:=hm
   rw [ho] at ho';cases ho'
   exact ⟨_,es',ep',hL,r'⟩) hok hg
theorem Inv.turned {t':Nat}{it:Addr} (I:Inv X pins σ H s) (k:∀b o,b≠it→s.heap.get? b=some o→h'.get? b=some o) (hn:H it=none) (hL:it≠X.env.locals)
   (h1:it∈X.ex∨X.s₀.heap.objs.size≤it) (h2:∀x c,X.env.cells.lookup x=some c→c≠it) (h3:∀p∈X.pn++pins,p.1≠it):Inv X pins σ H { s with heap:=h',toks:=t' }:=by
 have nit:∀b u,H b=some u→b≠it:=fun b u e z=>by rw [z,hn] at e;cases e
 refine I.step (g':=s.gens) (d':=s.drawn) (ch:=[it]) (fun b hb=>?_) (fun b o _ _ hc e _=>k b o (fun z=>hc (by simp [z])) e) (fun b o _ _ hc e _=>⟨o.slots,k b o (fun z=>hc (by simp [z])) e⟩) (fun _ _ _ _ n=>n)
   (fun b o hc e=>⟨o,k b o (fun z=>hc (by simp [z])) e⟩) (fun _ _ e=>e) (fun _ _ _ e=>e) (fun b ps e=>⟨#[],by rw [e];simp⟩) (fun m hm=>?_) (fun b u e=>?_) I.bare
 · have e:b=it:=by simpa using hb
   subst e
   exact ⟨h1,hL,h2,h3⟩
 · obtain ⟨o,es,ep,ho,r⟩:=hm
   exact ⟨o,es,ep,k _ o (Ne.symm hL) ho,r⟩
 · refine (I.hok b u e).stay (fun c v hc q=>k c v ?_ q) (fun _ q=>q) fun _ _ q=>q
   rcases hc with z | z
   · rw [z];exact nit b u e
   · exact nit c _ z
theorem Inv.tok (I:Inv X pins σ H s) (t:Nat):Inv X pins σ H { s with toks:=t }:=I.un (h':=s.heap) (t':=t) Un.refl I.hok
theorem Inv.kept {t':Nat} (I:Inv X pins σ H s) (k:∀b u,s.heap.get? b=some u→h'.get? b=some u):Inv X pins σ H { s with heap:=h',toks:=t' }:=I.un (Un.kept k) (I.hok.kept k)
theorem Inv.laid {a:Addr}{o:HO}{t':Nat} (I:Inv X pins σ H s) (k:∀b u,s.heap.get? b=some u→h'.get? b=some u) (hp:s.heap.objs.size≤a) (new:ObjOk X.prog X.w (upd H a o) h' a o) :
   Inv X pins σ (upd H a o) { s with heap:=h',toks:=t' }:=I.un (Un.laid k hp (I.hok.fresh hp)) (I.hok.laid k hp new)
theorem Inv.write {x e:Addr}{o:HO}{t':Nat} (I:Inv X pins σ H s) (mu:Mut (H x)) (he:e=x∨H e=some (.own x)) (k:∀b u,b≠e→s.heap.get? b=some u→h'.get? b=some u) (heo:∃u,h'.get? e=some u)
   (new:ObjOk X.prog X.w (upd H x o) h' x o):Inv X pins σ (upd H x o) { s with heap:=h',toks:=t' }:=I.un (Un.write mu he k heo) (I.hok.write mu he k heo new)
theorem Inv.pins_of {pins':List (Addr×Obj)} (I:Inv X pins σ H s) (h:∀p∈pins',s.heap.get? p.1=some p.2∧H p.1=none∧p.1≠X.env.locals∧p.1∉X.fs∧∀v,p.2.data≠.cell v):Inv X pins' σ H s :=
 ⟨I.ok,I.os,I.bare,I.base,I.loc,I.cell,I.free,I.freeC,fun p hp=>(List.mem_append.mp hp).elim (fun z=>I.pin p (List.mem_append_left _ z)) (h p),I.hok,I.len⟩

theorem nodup_ix {N:List Str} (hN:N.Nodup) {i j:Nat}{x:Str} (a:N[i]? = some x) (b:N[j]? = some x):i=j:=by
 obtain ⟨h1,e1⟩:=List.getElem?_eq_some_iff.mp a
 obtain ⟨h2,e2⟩:=List.getElem?_eq_some_iff.mp b
 exact (List.getElem_inj hN).mp (e1.trans e2.symm)

theorem store_ok2 {M:Model}{A:Around}{E:Value→Shared→Prop}{i:Nat}{x:Str}{v:V}{u:Value}{Q:Unit→Shared→Prop} (I:Inv X pins σ H s) (hN:X.N.Nodup) (hi:X.N[i]? = some x) (hx:Loc X.env.scope x) (r:RelV v u)
   (h:∀s',Inv X pins (σ.set i (some v)) H s'→(∃a,Heap.SameBut a s.heap s'.heap∧(a=X.env.locals∨X.env.cells.lookup x=some a))→Q () s') (hf:X.fn x=true∨X.env.scope.names.lookup x=some .local:=by first | exact .inl rfl | exact .inr rfl | assumption):wpAny M A (storeName X.env x u) Q E s:=by
 obtain ⟨m,hn,hl⟩:=id I.loc
 have hcls:(X.env.scope.kind == .class || (X.env.scope.kind == .module && X.env.locals != X.env.globals))=false:=by rw [I.ok.kind];rfl
 have hiσ:i < σ.length:=by rw [I.len];exact (List.getElem?_eq_some_iff.mp hi).1
 have cne:=I.cne
 have tracked:∀{a:Addr}{h':Heap},(∃o,s.heap.get? a=some o∧H a=none)→Heap.SameBut a s.heap h'→HOk X.prog X.w H h':=fun {a h'} ha hs b ob e=>by
   obtain ⟨_,_,hfree⟩:=ha
   refine (I.hok b ob e).stay (fun c w' hc q=>(hs.2 c ?_).trans q) (fun _ q=>q) fun _ _ q=>q
   rintro rfl
   rcases hc with rfl | hc
   · rw [hfree] at e;cases e
   · rw [hfree] at hc;cases hc
 rcases hx with hk | hk
 · refine wpAny_storeName_local hk hn (fun h' hn' hs=>?_) hcls
   obtain ⟨oL,_,_,hoL,_⟩:=id hn
   refine h _ ⟨I.ok,I.os,I.bare,⟨fun b o e n hb hx=>?_,fun b o e n hb hx=>?_,I.base.free,fun b o e hx=>?_,I.base.tups,I.base.frzs,I.base.tbls⟩,⟨_,hn',fun j y v' e1 e2 e3=>?_⟩,fun y c e=>?_,I.free,I.freeC,fun p hp=>?_,tracked ⟨oL,hoL,I.free⟩ hs,by simpa using I.len⟩ ⟨_,hs,.inl rfl⟩
   · exact (hs.2 b (Nat.ne_of_lt (Nat.lt_of_lt_of_le (Heap.lt_size e) I.ok.above))).trans (I.base.keep b o e n hb hx)
   · obtain ⟨sl,e1⟩:=I.base.slot b o e n hb hx
     exact ⟨sl,(hs.2 b (Nat.ne_of_lt (Nat.lt_of_lt_of_le (Heap.lt_size e) I.ok.above))).trans e1⟩
   · obtain ⟨o',e1⟩:=I.base.there b o e hx
     exact ⟨o',(hs.2 b (Nat.ne_of_lt (Nat.lt_of_lt_of_le (Heap.lt_size e) I.ok.above))).trans e1⟩
   · by_cases hj:j=i
     · subst hj
       rw [hi] at e1;cases e1
       rw [List.getElem?_set_self hiσ] at e2
       cases e2
       exact ⟨u,r,.inl ⟨hk,by simp⟩⟩
     · rw [List.getElem?_set_ne (Ne.symm hj)] at e2
       obtain ⟨u',r',q⟩:=hl j y v' e1 e2 e3
       refine ⟨u',r',?_⟩
       rcases q with ⟨k,e⟩ | ⟨k,c,e,z⟩
       · refine .inl ⟨k,?_⟩
         have:y≠x:=fun e=>hj (nodup_ix hN e1 (e ▸ hi))
         simp [this,e]
       · exact .inr ⟨k,c,e,z.sameBut hs (cne y c e)⟩
   · obtain ⟨w',z⟩:=I.cell y c e
     exact ⟨w',z.sameBut hs (cne y c e)⟩
   · obtain ⟨e,n,ne,nf,d⟩:=I.pin p hp
     exact ⟨(hs.2 p.1 ne).trans e,n,ne,nf,d⟩
 · have hfn:X.fn x=true:=by
     rcases hf with z | z
     · exact z
     · rw [z] at hk;cases hk
   obtain ⟨c,hc⟩:=I.ok.has x (.inl hk)
   obtain ⟨w',z⟩:=I.cell x c hc
   refine wpAny_storeName_cell I.ok.kind hk hc z (fun h' hc' hs=>?_)
   obtain ⟨oc,hoc,hocd⟩:=id z
   refine h { s with heap:=h' } ⟨I.ok,I.os,I.bare,⟨fun b o e n hb hx=>?_,fun b o e n hb hx=>?_,I.base.free,fun b o e hx=>?_,I.base.tups,I.base.frzs,I.base.tbls⟩,⟨m,hn.sameBut hs (Ne.symm (cne x c hc)),fun j y v' e1 e2 e3=>?_⟩,fun y c' e=>?_,I.free,I.freeC,fun p hp=>?_,tracked ⟨oc,hoc,I.freeC x c hc⟩ hs,by simpa using I.len⟩ ⟨c,hs,.inr hc⟩
   · exact (hs.2 b (Nat.ne_of_lt (Nat.lt_of_lt_of_le (Heap.lt_size e) (I.ok.cab x c hfn hc)))).trans (I.base.keep b o e n hb hx)
   · obtain ⟨sl,e1⟩:=I.base.slot b o e n hb hx
     exact ⟨sl,(hs.2 b (Nat.ne_of_lt (Nat.lt_of_lt_of_le (Heap.lt_size e) (I.ok.cab x c hfn hc)))).trans e1⟩
   · obtain ⟨o',e1⟩:=I.base.there b o e hx
     exact ⟨o',(hs.2 b (Nat.ne_of_lt (Nat.lt_of_lt_of_le (Heap.lt_size e) (I.ok.cab x c hfn hc)))).trans e1⟩
   · by_cases hj:j=i
     · subst hj
       rw [hi] at e1;cases e1
       rw [List.getElem?_set_self hiσ] at e2
       cases e2
       exact ⟨u,r,.inr ⟨.inl hk,c,hc,hc'⟩⟩
     · rw [List.getElem?_set_ne (Ne.symm hj)] at e2
       obtain ⟨u',r',q⟩:=hl j y v' e1 e2 e3
       refine ⟨u',r',?_⟩
       rcases q with q | ⟨k,c',e,z'⟩
       · exact .inl q
       · refine .inr ⟨k,c',e,z'.sameBut hs ?_⟩
         rintro rfl
         exact hj (nodup_ix hN e1 (I.ok.inj _ _ _ e hc ▸ hi))
   · by_cases hcc:c'=c
     · subst hcc;exact ⟨_,hc'⟩
     · obtain ⟨w2,z2⟩:=I.cell y c' e
       exact ⟨w2,z2.sameBut hs hcc⟩
   · obtain ⟨e,n,ne,nf,d⟩:=I.pin p hp
     refine ⟨(hs.2 p.1 ?_).trans e,n,ne,nf,d⟩
     intro q
     rw [q,hoc] at e
     have q':oc=p.2:=Option.some.inj e
     exact d w' (by rw [← q'];exact hocd)
theorem store_ok {M:Model}{A:Around}{E:Value→Shared→Prop}{i:Nat}{x:Str}{v:V}{u:Value}{Q:Unit→Shared→Prop} (I:Inv X pins σ H s) (hN:X.N.Nodup) (hi:X.N[i]? = some x) (hx:Loc X.env.scope x) (r:RelV v u)
   (h:∀s',Inv X pins (σ.set i (some v)) H s'→Q () s') (hf:X.fn x=true∨X.env.scope.names.lookup x=some .local:=by first | exact .inl rfl | exact .inr rfl | assumption):wpAny M A (storeName X.env x u) Q E s :=
 store_ok2 I hN hi hx r (fun s' I' _=>h s' I') hf
theorem Inv.call' {s':Shared}{ch:List Addr} (I:Inv X pins σ H s) (ho:s'.os=s.os) (u:Un (frs X.stack) ch H H' s.heap s'.heap) (hok:HOk X.prog X.w H' s'.heap) (hg:AllBare s'.gens)
   (hch:∀b∈ch,(b∈X.ex∨X.s₀.heap.objs.size≤b)∧b≠X.env.locals∧(∀x c,X.env.cells.lookup x=some c→c≠b)∧∀p∈X.pn++pins,p.1≠b):Inv X pins σ H' s':=by
 obtain ⟨h',g',d',t',o'⟩:=s'
 have e:o'=s.os:=ho
 subst e
 exact I.call (g':=g') (t':=t') (d':=d') u hok hg hch
end

abbrev XK:=Value→Option Addr→Hp→Prop
abbrev St:=List (Option V)
abbrev VK:=V→Hp→Prop
abbrev TE:=St→Hp→VK→Prop
abbrev TT:=St→Hp→(Bool→Hp→Prop)→Prop
abbrev TA:=St→Hp→(List V→Hp→Prop)→Prop
structure Ends where
 nx:St→Hp→Prop
 rt:VK
 bk:St→Hp→Prop:=fun _ _=>False
 ct:St→Hp→Prop:=fun _ _=>False
abbrev TS:=Ends→St→Hp→Prop

def EP (X:Cx) (pins:List (Addr×Obj)) (σ:St) (Q:VK) (u:Value) (s':Shared):Prop:=∃v H',Inv X pins σ H' s'∧RelV v u∧Q v H'
def TP (X:Cx) (pins:List (Addr×Obj)) (σ:St) (Q:Bool→Hp→Prop) (b:Bool) (s':Shared):Prop:=∃H',Inv X pins σ H' s'∧Q b H'
def AP (X:Cx) (pins:List (Addr×Obj)) (σ:St) (Q:List V→Hp→Prop) (us:List Value) (s':Shared):Prop:=∃vs H',Inv X pins σ H' s'∧Vals vs us∧Q vs H'
def SP (X:Cx) (pins:List (Addr×Obj)) (D:Ends) (f:Flow) (s':Shared):Prop :=
 match f with
 | .next=>∃σ' H',Inv X pins σ' H' s'∧D.nx σ' H'
 | .brk=>∃σ' H',Inv X pins σ' H' s'∧D.bk σ' H'
 | .cont=>∃σ' H',Inv X pins σ' H' s'∧D.ct σ' H'
 | .ret u=>∃v σ' H',Inv X pins σ' H' s'∧RelV v u∧D.rt v H'

def PE (X:Cx) (e:Expr) (t:TE):Prop :=
 ∀(pins:List (Addr×Obj)) (s:Shared) (σ:St) (H:Hp) (Q:VK),Inv X pins σ H s→t σ H Q→wpAny (model X.prog X.w) X.A (eval e X.env) (EP X pins σ Q) X.xe s
def PT (X:Cx) (e:Expr) (t:TT):Prop :=
 ∀(pins:List (Addr×Obj)) (s:Shared) (σ:St) (H:Hp) (Q:Bool→Hp→Prop),Inv X pins σ H s→t σ H Q→wpAny (model X.prog X.w) X.A (isTrue e X.env (eval e X.env)) (TP X pins σ Q) X.xe s
def PW (X:Cx) (e:Expr) (t:TT):Prop :=
 ∀(whole:Sem Value) (pins:List (Addr×Obj)) (s:Shared) (σ:St) (H:Hp) (Q:Bool→Hp→Prop),Inv X pins σ H s→t σ H Q→wpAny (model X.prog X.w) X.A (isTrue e X.env whole) (TP X pins σ Q) X.xe s
theorem PW.pt {X:Cx}{e:Expr}{t:TT} (h:PW X e t):PT X e t:=h _
def PA (X:Cx) (es:List Expr) (t:TA):Prop :=
 ∀(pos:Pos) (pins:List (Addr×Obj)) (s:Shared) (σ:St) (H:Hp) (Q:List V→Hp→Prop),Inv X pins σ H s→t σ H Q→wpAny (model X.prog X.w) X.A (spliced (backTo pos (starEach es X.env))) (AP X pins σ Q) X.xe s
def PS (X:Cx) (st:Stmt) (t:TS):Prop :=
 ∀(pins:List (Addr×Obj)) (s:Shared) (σ:St) (H:Hp) (D:Ends),Inv X pins σ H s→t D σ H→wpAny (model X.prog X.w) X.A (exec st X.env) (SP X pins D) X.xe s
def PSs (X:Cx) (st:List Stmt) (t:TS):Prop :=
 ∀(pins:List (Addr×Obj)) (s:Shared) (σ:St) (H:Hp) (D:Ends),Inv X pins σ H s→t D σ H→wpAny (model X.prog X.w) X.A (execs st X.env) (SP X pins D) X.xe s
theorem thn {α:Type}{t:Sem α}{Q Q':α→Shared→Prop}{M:Model}{A:Around}{E:Value→Shared→Prop}{s:Shared} (h:wpAny M A t Q E s) (hQ:∀a s,Q a s→Q' a s):wpAny M A t Q' E s:=wpAny_mono h hQ fun _ _ x=>x
end L2

namespace L2
open PySem PySem.Spec PyProof.Rows
section
variable {X:Cx}

def tVar (i:Nat):TE:=fun σ H Q=>∃v,σ[i]? = some (some v)∧Q v H
def tC (v:V):TE:=fun _ H Q=>Q v H
theorem pe_var {i:Nat}{x:Str}{pos:Pos} (hN:X.N[i]? = some x) (hv:Vis X.env.scope x) (hd:(x == ("__debug__":Str))=false:=by decide) (hcd:(x == ("__classdict__":Str))=false:=by decide):PE X (.Name x pos) (tVar i):=by
 intro pins s σ H Q I h
 obtain ⟨v,e,h⟩:=h
 obtain ⟨m,hn,hl⟩:=I.loc
 obtain ⟨u,r,l⟩:=hl i x v hN e hv
 have fin:EP X pins σ Q u s:=⟨v,H,I,r,h⟩
 rcases l with ⟨hk,hm⟩ | ⟨hk,c,hc,hcell⟩
 · exact wpAny_Name (wpAny_loadName_local I.ok.kind hk hn hm fin) hd
 · rcases hk with hk | hk
   · exact wpAny_Name (wpAny_loadName_cell I.ok.kind hk hc hcell fin) hd
   · exact wpAny_Name (wpAny_loadName_free I.ok.kind hk hc hcell fin hcd) hd
theorem pe_int {i j pos}:PE X (.Constant (.int i) j pos) (tC (.int i)):=fun _ _ _ H _ I h=>wpAny_Constant_int ⟨.int i,H,I.tok _,⟨_,rfl⟩,h⟩
theorem pe_bl {b j pos}:PE X (.Constant (.bool b) j pos) (tC (.bl b)):=fun _ _ _ H _ I h=>Constant_bool ⟨.bl b,H,I,rfl,h⟩
theorem pe_non {j pos}:PE X (.Constant .none j pos) (tC .non):=fun _ _ _ H _ I h=>Constant_none ⟨.non,H,I,rfl,h⟩
theorem pe_str {x j pos}:PE X (.Constant (.str x) j pos) (tC (.str x)):=fun _ _ _ H _ I h=>Calls.Constant_str ⟨.str x,H,I.tok _,⟨_,rfl⟩,h⟩

def Gl (X:Cx) (x:Str):Prop:=X.env.kindOf x=some .globalImplicit
theorem ld_glob {E:Value→Shared→Prop}{pins:List (Addr×Obj)}{s:Shared}{σ:St}{H:Hp}{x:Str}{u:Value}{pos:Pos}{Q:Value→Shared→Prop} (I:Inv X pins σ H s) (hg:Gl X x) (hm:X.mg x=some u) (h:Q u s)
   (hd:(x == ("__debug__":Str))=false:=by decide):wpAny (model X.prog X.w) X.A (eval (.Name x pos) X.env) Q E s :=
 Calls.Name_function_global I.ok.kind hg (Calls.loadGlobal_global (by rw [I.ok.glob];exact I.mod.glob.keeps I.bk) hm h) hd
theorem ld_blt {E:Value→Shared→Prop}{pins:List (Addr×Obj)}{s:Shared}{σ:St}{H:Hp}{x:Str}{u:Value}{pos:Pos}{Q:Value→Shared→Prop} (I:Inv X pins σ H s) (hg:Gl X x) (hm:X.mg x=none) (hv:bootBuiltins x=some u) (h:Q u s)
   (hn:x≠"__name__":=by decide) (hd:(x == ("__debug__":Str))=false:=by decide):wpAny (model X.prog X.w) X.A (eval (.Name x pos) X.env) Q E s:=by
 obtain ⟨mb,h1,h2⟩:=I.mod.blt
 exact Calls.Name_function_global I.ok.kind hg (Calls.loadGlobal_builtin (by rw [I.ok.glob];exact I.mod.glob.keeps I.bk) hm (by rw [I.ok.blt];exact h1.keeps I.bk) ((h2 x hn).trans hv) h) hd
theorem pe_glob {x:Str}{v:V}{u:Value}{pos:Pos} (hg:Gl X x) (hm:X.mg x=some u) (r:RelV v u) (hd:(x == ("__debug__":Str))=false:=by decide):PE X (.Name x pos) (tC v) :=
 fun _ _ _ H _ I h=>ld_glob I hg hm ⟨v,H,I,r,h⟩ hd
theorem pe_bltn {x:Str}{v:V}{u:Value}{pos:Pos} (hg:Gl X x) (hm:X.mg x=none) (hv:bootBuiltins x=some u) (r:RelV v u) (hn:x≠"__name__":=by decide) (hd:(x == ("__debug__":Str))=false:=by decide):PE X (.Name x pos) (tC v) :=
 fun _ _ _ H _ I h=>ld_blt I hg hm hv ⟨v,H,I,r,h⟩ hn hd

variable {a b:Expr}{ta tb:TE}{pos:Pos}
def tB (t:TE):TT:=fun σ H Q=>t σ H fun x H1=>∃c,x=.bl c∧Q c H1
theorem pt_val {e:Expr}{t:TE} (h:PE X e t) (he:∀whole,isTrue e X.env whole=(do let v ← whole;standAt e.pos;holding [v] (truthy v)):=by intro _;rfl):PT X e (tB t):=by
 intro pins s σ H Q I hw
 refine isTrue_plain (thn (h pins s σ H _ I hw) fun v s1 ⟨x,H1,I1,r1,q1⟩=>?_) (he _)
 obtain ⟨d,rfl,q⟩:=q1
 cases r1
 exact wpAny_truthy_bool ⟨H1,I1,q⟩

variable {tA tB':TT}{rest:List Expr}
def tAnd (t u:TT):TT:=fun σ H Q=>t σ H fun c H1=>if c=true then u σ H1 Q else Q false H1
def tOr (t u:TT):TT:=fun σ H Q=>t σ H fun c H1=>if c=true then Q true H1 else u σ H1 Q
def tNot (t:TT):TT:=fun σ H Q=>t σ H fun c H1=>Q (!c) H1
theorem pw_and1 (ha:PT X a tA):PW X (.BoolOp .And [a] pos) tA:=by
 intro wh pins s σ H Q I h
 refine isTrue_and (thn (ha pins s σ H Q I h) fun c s1 e=>?_)
 cases c with
 | true=>exact isTrue_and_nil e
 | false=>exact e
theorem pw_or1 (ha:PT X a tA):PW X (.BoolOp .Or [a] pos) tA:=by
 intro wh pins s σ H Q I h
 refine isTrue_or (thn (ha pins s σ H Q I h) fun c s1 e=>?_)
 cases c with
 | false=>exact isTrue_or_nil e
 | true=>exact e
theorem pw_and (ha:PT X a tA) (hb:PW X (.BoolOp .And (b::rest) pos) tB'):PW X (.BoolOp .And (a::b::rest) pos) (tAnd tA tB'):=by
 intro wh pins s σ H Q I h
 refine isTrue_and (thn (ha pins s σ H _ I h) fun c s1 ⟨H1,I1,q1⟩=>?_)
 cases c with
 | true=>exact hb wh pins s1 σ H1 Q I1 q1
 | false=>exact ⟨H1,I1,q1⟩
theorem pw_or (ha:PT X a tA) (hb:PW X (.BoolOp .Or (b::rest) pos) tB'):PW X (.BoolOp .Or (a::b::rest) pos) (tOr tA tB'):=by
 intro wh pins s σ H Q I h
 refine isTrue_or (thn (ha pins s σ H _ I h) fun c s1 ⟨H1,I1,q1⟩=>?_)
 cases c with
 | true=>exact ⟨H1,I1,q1⟩
 | false=>exact hb wh pins s1 σ H1 Q I1 q1
theorem pt_not (ha:PT X a tA):PT X (.UnaryOp .Not a pos) (tNot tA):=by
 intro pins s σ H Q I h
 exact isTrue_not (ha pins s σ H (fun c H1=>Q (!c) H1) I h)
def tAndV (ta tb:TE):TE:=fun σ H Q=>ta σ H fun x H1=>∃c,x=.bl c∧if c=true then tb σ H1 Q else Q (.bl false) H1
def tNotV (ta:TE):TE:=fun σ H Q=>ta σ H fun x H1=>∃c,x=.bl c∧Q (.bl (!c)) H1
theorem pe_one {op}{t:TE} (h:PE X a t):PE X (.BoolOp op [a] pos) t:=fun pins s σ H Q I hw=>BoolOp_one (h pins s σ H Q I hw)
theorem pe_and (ha:PE X a ta) (hb:PE X (.BoolOp .And (b::rest) pos) tb):PE X (.BoolOp .And (a::b::rest) pos) (tAndV ta tb):=by
 intro pins s σ H Q I h
 refine BoolOp_and (thn (ha pins s σ H _ I h) fun v s1 ⟨x,H1,I1,r1,q1⟩=>?_)
 obtain ⟨c,rfl,q1⟩:=q1
 cases r1
 refine wpAny_truthy_bool ?_
 cases c with
 | true=>exact hb pins s1 σ H1 Q I1 q1
 | false=>exact ⟨.bl false,H1,I1,rfl,q1⟩
theorem pe_not (ha:PE X a ta):PE X (.UnaryOp .Not a pos) (tNotV ta):=by
 intro pins s σ H Q I h
 refine UnaryOp_ (thn (ha pins s σ H _ I h) fun v s1 ⟨x,H1,I1,r1,q1⟩=>?_)
 obtain ⟨c,rfl,q1⟩:=q1
 cases r1
 exact not_of (wpAny_truthy_bool ⟨.bl (!c),H1,I1,rfl,q1⟩)
end
end L2

namespace L2
open PySem PySem.Spec PyProof.Rows

def SqL (K:PySem.W.Frag) (H:Hp) (a:Addr) (xs:List V):Prop :=
 Rd H a (.lst xs) ∨
   ∃(o:Obj) (its:Array Value) (n:Nat),K.lookup a=some o∧o.cls=.type "list"∧o.dict=none∧o.data=.seq its n∧its.size≤sizeLine∧Vals xs its.toList
def SqT (K:PySem.W.Frag) (H:Hp) (a:Addr) (xs:List V):Prop :=
 Rd H a (.tup xs) ∨
   ∃(o:Obj) (its:Array Value) (n:Nat),K.lookup a=some o∧o.cls=.type "tuple"∧o.data=.seq its n∧its.size≤sizeLine∧Vals xs its.toList
def absV:Value→Option V
 | .none=>some .non
 | .bool b=>some (.bl b)
 | .int i _=>some (.int i)
 | .str x _=>some (.str x)
 | .bytes b _=>some (.byt b)
 | .float b _=>some (.flt b)
 | .ref a=>some (.ref a)
 | .type n=>some (.ty n)
 | _=>none
theorem RelV.abs {x:V}{u:Value} (r:RelV x u):absV u=some x:=by
 cases x with
 | non=>cases r;rfl
 | bl _=>cases r;rfl
 | int _=>obtain ⟨t,rfl⟩:=r;rfl
 | str _=>obtain ⟨t,rfl⟩:=r;rfl
 | byt _=>obtain ⟨t,rfl⟩:=r;rfl
 | flt _=>obtain ⟨t,rfl⟩:=r;rfl
 | ref _=>cases r;rfl
 | ty _=>cases r;rfl
theorem RelV.inj {x y:V}{u:Value} (r:RelV x u) (q:RelV y u):x=y:=Option.some.inj (r.abs.symm.trans q.abs)
theorem Vals.inj:∀{xs ys:List V}{us:List Value},Vals xs us→Vals ys us→xs=ys
 | _,_,_,.nil,.nil=>rfl
 | _,_,_,.cons r t,.cons r' t'=>by rw [r.inj r',Vals.inj t t']
section
variable {X:Cx}{pins:List (Addr×Obj)}{σ:St}{H:Hp}{s:Shared}{a:Addr}{xs ys:List V}
theorem SqL.of {K:PySem.W.Frag} (h:H a=some (.lst xs)):SqL K H a xs:=.inl (.inl h)
theorem Inv.list (I:Inv X pins σ H s) (h:SqL X.K H a xs):∃its:List Value,Vals xs its∧PlainL s.heap a its.toArray∧xs.length≤sizeLine:=by
 rcases h with h | ⟨o,its,n,hk,hc,hd,hs,hz,r⟩
 · obtain ⟨z,its,n,r,e⟩:=h.ok I.hok
   exact ⟨its,r,⟨_,n,e,rfl,rfl,rfl⟩,z⟩
 · refine ⟨its.toList,r,⟨o,n,I.kIn a o hk,hc,hd,by simpa using hs⟩,?_⟩
   have e:=r.length
   simp only [Array.length_toList] at e
   omega
theorem Inv.tuple (I:Inv X pins σ H s) (h:SqT X.K H a xs):∃its:List Value,Vals xs its∧IsTup s.heap a its.toArray∧xs.length≤sizeLine:=by
 rcases h with h | ⟨o,its,n,hk,hc,hs,hz,r⟩
 · obtain ⟨z,its,r,p⟩:=h.ok I.hok
   exact ⟨its,r,p,z⟩
 · refine ⟨its.toList,r,⟨o,I.kIn a o hk,hc,n,by simpa using hs⟩,?_⟩
   have e:=r.length
   simp only [Array.length_toList] at e
   omega
theorem Inv.list_inj (I:Inv X pins σ H s) (h:SqL X.K H a xs) (h':SqL X.K H a ys):xs=ys:=by
 obtain ⟨its,r,⟨o,n,e,_,_,d⟩,_⟩:=I.list h
 obtain ⟨its',r',⟨o',n',e',_,_,d'⟩,_⟩:=I.list h'
 rw [e] at e';cases e'
 rw [d] at d'
 injection d' with d1 _
 have:its=its':=by simpa using congrArg Array.toList d1
 subst this
 exact r.inj r'
theorem Inv.tuple_inj (I:Inv X pins σ H s) (h:SqT X.K H a xs) (h':SqT X.K H a ys):xs=ys:=by
 obtain ⟨its,r,⟨o,e,_,n,d⟩,_⟩:=I.tuple h
 obtain ⟨its',r',⟨o',e',_,n',d'⟩,_⟩:=I.tuple h'
 rw [e] at e';cases e'
 rw [d] at d'
 injection d' with d1 _
 have:its=its':=by simpa using congrArg Array.toList d1
 subst this
 exact r.inj r'
end

abbrev Cx.wish (X:Cx) (E:Value→Shared→Prop):Cx:={ X with xe:=E }
abbrev Cx.nox (X:Cx):Cx:=X.wish fun _ _=>False
theorem Cx.Ok.wish {X:Cx} (ok:X.Ok) (E:Value→Shared→Prop):(X.wish E).Ok :=
 ⟨ok.mod,ok.kind,ok.glob,ok.blt,ok.above,ok.inj,ok.has,ok.cab,ok.hd,ok.frames,ok.stk,ok.exf,ok.bs,ok.bsz,ok.noex,ok.exfs,ok.funs,ok.frf⟩
theorem Cx.Ok.unwish {X:Cx}{E:Value→Shared→Prop} (ok:(X.wish E).Ok):X.Ok :=
 ⟨ok.mod,ok.kind,ok.glob,ok.blt,ok.above,ok.inj,ok.has,ok.cab,ok.hd,ok.frames,ok.stk,ok.exf,ok.bs,ok.bsz,ok.noex,ok.exfs,ok.funs,ok.frf⟩
section
variable {X:Cx}{pins:List (Addr×Obj)}{σ:St}{H:Hp}{s:Shared}{E:Value→Shared→Prop}
theorem Inv.wish (I:Inv X pins σ H s) (E:Value→Shared→Prop):Inv (X.wish E) pins σ H s:=⟨I.ok.wish E,I.os,I.bare,I.base,I.loc,I.cell,I.free,I.freeC,I.pin,I.hok,I.len⟩
theorem Inv.unwish (I:Inv (X.wish E) pins σ H s):Inv X pins σ H s:=⟨I.ok.unwish,I.os,I.bare,I.base,I.loc,I.cell,I.free,I.freeC,I.pin,I.hok,I.len⟩
theorem SP.unwish {D:Ends}{f:Flow}{s':Shared} (h:SP (X.wish E) pins D f s'):SP X pins D f s':=by
 cases f with
 | next=>obtain ⟨σ',H',I,q⟩:=h;exact ⟨σ',H',I.unwish,q⟩
 | brk=>obtain ⟨σ',H',I,q⟩:=h;exact ⟨σ',H',I.unwish,q⟩
 | cont=>obtain ⟨σ',H',I,q⟩:=h;exact ⟨σ',H',I.unwish,q⟩
 | ret u=>obtain ⟨v,σ',H',I,r,q⟩:=h;exact ⟨v,σ',H',I.unwish,r,q⟩
theorem PSs.nox {st:List Stmt}{t:TS} (h:PSs X.nox st t):PSs X st t:=fun pins s σ H D I hw =>
 wpAny_mono (h pins s σ H D (I.wish _) hw) (fun _ _ q=>q.unwish) fun _ _ z=>False.elim z
end

section
variable {X:Cx}{st:Stmt}{rest:List Stmt}{t u:TS}{e:Expr}{te:TE}{pos:Pos}
def tNext:TS:=fun D σ H=>D.nx σ H
def tSeq (t u:TS):TS:=fun D σ H=>t { D with nx:=u D } σ H
theorem pss_nil:PSs X [] tNext:=fun _ _ σ H _ I h=>wpAny_execs_nil ⟨σ,H,I,h⟩
theorem pss_cons (h1:PS X st t) (h2:PSs X rest u):PSs X (st::rest) (tSeq t u):=by
 intro pins s σ H D I h
 refine wpAny_execs_cons (thn (h1 pins s σ H { D with nx:=u D } I h) fun f s1 q=>?_)
 cases f with
 | next =>
   obtain ⟨σ',H',I',q⟩:=q
   exact h2 pins s1 σ' H' D I' q
 | ret v=>exact q
 | brk=>exact q
 | cont=>exact q
theorem pss_one (h1:PS X st t):PSs X [st] t:=by
 intro pins s σ H D I h
 refine wpAny_execs_cons (thn (h1 pins s σ H D I h) fun f s1 q=>?_)
 cases f with
 | next=>exact wpAny_execs_nil q
 | ret v=>exact q
 | brk=>exact q
 | cont=>exact q
theorem Inv.quiet {pins:List (Addr×Obj)}{σ:St}{H:Hp}{s:Shared} (I:Inv X pins σ H s):interactive X.env=false:=by simp [interactive,I.ok.kind]
def tDrop (te:TE):TS:=fun D σ H=>te σ H fun _ H1=>D.nx σ H1
theorem ps_expr (he:PE X e te) (hs:swapsWith e none pos.line X.env=pure false:=by rfl):PS X (.Expr e pos) (tDrop te):=by
 intro pins s σ H D I h
 exact wpAny_Expr_any (thn (he pins s σ H _ I h) fun v s1 ⟨x,H1,I1,r1,q1⟩=>⟨σ,H1,I1,q1⟩) I.quiet hs
def tRet (te:TE):TS:=fun D σ H=>te σ H D.rt
theorem ps_ret (he:PE X e te):PS X (.Return (some e) pos) (tRet te):=by
 intro pins s σ H D I h
 exact wpAny_Return_some (thn (he pins s σ H _ I h) fun v s1 ⟨x,H1,I1,r1,q1⟩=>⟨x,σ,H1,I1,r1,q1⟩)
def tRetN:TS:=fun D _ H=>D.rt .non H
theorem ps_retN:PS X (.Return none pos) tRetN:=fun _ _ σ H _ I h=>wpAny_Return_none ⟨.non,σ,H,I,rfl,h⟩
def tIfS (c:TT) (t u:TS):TS:=fun D σ H=>c σ H fun b H1=>if b=true then t D σ H1 else u D σ H1
theorem ps_if {c:Expr}{a b:List Stmt}{tc:TT} (hc:PT X c tc) (ha:PSs X a t) (hb:PSs X b u):PS X (.If c a b pos) (tIfS tc t u):=by
 intro pins s σ H D I h
 refine wpAny_If (thn (hc pins s σ H _ I h) fun d s1 ⟨H1,I1,q1⟩=>?_)
 cases d with
 | true=>exact ha pins s1 σ H1 D I1 q1
 | false=>exact hb pins s1 σ H1 D I1 q1
def tNever:TS:=fun _ _ _=>False
theorem ps_never:PS X st tNever:=fun _ _ _ _ _ _ h=>h.elim
end

abbrev TG:=V→St→Hp→(St→Hp→Prop)→Prop
abbrev TGs:=List V→St→Hp→(St→Hp→Prop)→Prop
def PG (X:Cx) (target:Expr) (t:TG):Prop :=
 ∀(pins:List (Addr×Obj)) (s:Shared) (σ:St) (H:Hp) (v:V) (u:Value) (Q:St→Hp→Prop),Inv X pins σ H s→RelV v u→t v σ H Q →
   wpAny (model X.prog X.w) X.A (assign target X.env u) (fun _ s'=>∃σ' H',Inv X pins σ' H' s'∧Q σ' H') X.xe s
def PGs (X:Cx) (ts:List Expr) (t:TGs):Prop :=
 ∀(pins:List (Addr×Obj)) (s:Shared) (σ:St) (H:Hp) (vs:List V) (us:List Value) (Q:St→Hp→Prop),Inv X pins σ H s→Vals vs us→t vs σ H Q →
   wpAny (model X.prog X.w) X.A (assignInOrder ((assignEach ts X.env).map (·.2)) us) (fun _ s'=>∃σ' H',Inv X pins σ' H' s'∧Q σ' H') X.xe s
abbrev TSet:=V→V→V→Hp→(Hp→Prop)→Prop
def PSet (X:Cx) (t:TSet):Prop :=
 ∀(pins:List (Addr×Obj)) (s:Shared) (σ:St) (H:Hp) (o i v:V) (ov iv u:Value) (Q:Hp→Prop),Inv X pins σ H s→RelV o ov→RelV i iv→RelV v u→t o i v H Q →
   wpAny (model X.prog X.w) X.A (setItem ov iv u) (fun _ s'=>∃H',Inv X pins σ H' s'∧Q H') X.xe s
section
variable {X:Cx}{pos:Pos}
def gName (i:Nat):TG:=fun v σ H Q=>Q (σ.set i (some v)) H
theorem pg_name {i:Nat}{x:Str} (hN:X.N.Nodup) (hi:X.N[i]? = some x) (hx:Loc X.env.scope x) (hf:X.fn x=true∨X.env.scope.names.lookup x=some .local:=by first | exact .inl rfl | exact .inr rfl | assumption):PG X (.Name x pos) (gName i):=by
 intro pins s σ H v u Q I r h
 exact wpAny_assign_Name (store_ok I hN hi hx r (fun s' I'=>⟨_,H,I',h⟩) hf)
def gNil:TGs:=fun vs σ H Q=>vs=[]∧Q σ H
def gCons (t:TG) (u:TGs):TGs:=fun vs σ H Q=>∃v r,vs=v::r∧t v σ H fun σ' H'=>u r σ' H' Q
theorem pgs_nil:PGs X [] gNil:=by
 intro pins s σ H vs us Q I r h
 obtain ⟨e,h⟩:=h
 subst e
 cases r
 exact assignInOrder_nil ⟨σ,H,I,h⟩
theorem pgs_cons {e:Expr}{es:List Expr}{t:TG}{u:TGs} (h1:PG X e t) (h2:PGs X es u)
   (hs:(assignEach (e::es) X.env).map (·.2)=assign e X.env::(assignEach es X.env).map (·.2):=by rfl):PGs X (e::es) (gCons t u):=by
 intro pins s σ H vs us Q I r h
 obtain ⟨v,vr,e1,h⟩:=h
 subst e1
 cases r with
 | cons r rr =>
   rw [hs]
   refine assignInOrder_cons (thn (h1 pins s σ H _ _ _ I r h) fun _ s1 ⟨σ1,H1,I1,q1⟩=>?_)
   exact h2 pins s1 σ1 H1 _ _ Q I1 rr q1
def gSub (to ti:TE) (t:TSet):TG:=fun v σ H Q=>to σ H fun o H1=>ti σ H1 fun i H2=>t o i v H2 fun H3=>Q σ H3
theorem pg_sub {o i:Expr}{to ti:TE}{t:TSet} (ho:PE X o to) (hi:PE X i ti) (hs:PSet X t)
   (ha:∀v,assign (.Subscript o i pos) X.env v=(do
     let ov ← holding [v] (eval o X.env)
     let iv ← holding [v,ov] (eval i X.env)
     standAt pos
     holding [v,ov,iv] (setItem ov iv v)
     release [v,ov,iv] []):=by intro _;rfl):PG X (.Subscript o i pos) (gSub to ti t):=by
 intro pins s σ H v u Q I r h
 rw [ha]
 refine wpAny_bind (wpAny_holding (thn (ho pins s σ H _ I h) fun ov s1 ⟨x,H1,I1,r1,q1⟩=>?_))
 refine wpAny_bind (wpAny_holding (thn (hi pins s1 σ H1 _ I1 q1) fun iv s2 ⟨y,H2,I2,r2,q2⟩=>?_))
 refine wpAny_bind (wpAny_standAt (wpAny_bind (wpAny_holding (thn (hs pins s2 σ H2 x y v ov iv u _ I2 r1 r2 r q2) fun _ s3 ⟨H3,I3,q3⟩=>?_))))
 exact wpAny_release ⟨σ,H3,I3,q3⟩
def tAsg (te:TE) (g:TG):TS:=fun D σ H=>te σ H fun x H1=>g x σ H1 D.nx
theorem ps_asg {tg e:Expr}{te:TE}{g:TG} (he:PE X e te) (hg:PG X tg g) (hs:swapsWithSole [tg] e pos.line X.env=pure false:=by rfl) (hw:swappedStores [tg] e X.env=pure none:=by rfl)
   (h1:(assignEach [tg] X.env).map (·.2)=[assign tg X.env]:=by rfl):PS X (.Assign [tg] e pos) (tAsg te g):=by
 intro pins s σ H D I h
 refine wpAny_Assign_stores (thn (he pins s σ H _ I h) fun v s1 ⟨x,H1,I1,r1,q1⟩=>?_) hs hw
 rw [h1]
 exact thn (hg pins s1 σ H1 x v _ I1 r1 q1) fun _ s2 q=>q
theorem ps_set {i:Nat}{x:Str}{e:Expr}{te:TE}{pos':Pos} (hN:X.N.Nodup) (hi:X.N[i]? = some x) (hx:Loc X.env.scope x) (he:PE X e te) (hs:swapsWith e (some (.Name x pos')) pos.line X.env=pure false:=by rfl) (hf:X.fn x=true∨X.env.scope.names.lookup x=some .local:=by first | exact .inl rfl | exact .inr rfl | assumption) :
   PS X (.Assign [.Name x pos'] e pos) (tAsg te (gName i)):=by
 intro pins s σ H D I h
 refine wpAny_Assign_Name (thn (he pins s σ H _ I h) fun v s1 ⟨y,H1,I1,r1,q1⟩=>?_) hs
 exact store_ok I1 hN hi hx r1 (fun s2 I2=>⟨_,H1,I2,q1⟩) hf
end


structure It where
 go:Nat→Hp→Prop
 yld:Nat→Hp→V→Hp→Prop
 stop:Nat→Hp→Prop
def FpOk (X:Cx) (pins:List (Addr×Obj)) (H:Hp) (b:Addr):Prop :=
 H b=none∧b≠X.env.locals∧b∉X.fs∧(b∈X.ex∨X.s₀.heap.objs.size≤b)∧(∀x c,X.env.cells.lookup x=some c→c≠b)∧∀p∈X.pn++pins,p.1≠b
theorem Inv.fpOk {X:Cx}{pins:List (Addr×Obj)}{σ:St}{H H':Hp}{s:Shared}{b:Addr} (I:Inv X pins σ H s) (hb:s.heap.objs.size≤b) (hn:H' b=none):FpOk X pins H' b:=by
 refine ⟨hn,Nat.ne_of_gt (Nat.lt_of_lt_of_le I.lt hb),I.nofs hb,.inr (Nat.le_trans I.sz hb),fun x c e z=>?_,fun p hp z=>?_⟩
 · obtain ⟨v,q⟩:=I.cell x c e
   exact absurd (Nat.lt_of_lt_of_le q.lt (by rw [z];exact hb)) (Nat.lt_irrefl _)
 · exact absurd (Nat.lt_of_lt_of_le (Heap.lt_size (I.pin p hp).1) (by rw [z];exact hb)) (Nat.lt_irrefl _)
structure Turn (P:Program) (w:World) (K:PySem.W.Frag) (tg:Expr) (J:It) (fp:List Addr) (it:Addr) (tn:Nat→Heap→Prop):Prop where
 mem:it∈fp
 obj:∀i h,tn i h→∀b∈fp,∃o,h.get? b=some o∧∀v,o.data≠.cell v
 keep:∀i h h',tn i h→(∀b∈fp,∀o,h.get? b=some o→h'.get? b=some o)→tn i h'
 item:∀(X:Cx),X.prog=P→X.w=w→X.K=K→X.calm=true→∀(i:Nat) (pins:List (Addr×Obj)) (s:Shared) (σ:St) (H:Hp) (E:Value→Shared→Prop),Inv X pins σ H s→(∀b∈fp,FpOk X pins H b)→tn i s.heap→J.go i H →
   wpAny (model P w) X.A (pyNext (.ref it)) (fun r s1=>∃u,r=some u ∧
     wpAny (model P w) X.A (letOwnedTupleGo tg (.ref it) u) (fun _ s2=>∃x H',Inv X pins σ H' s2∧RelV x u∧J.yld i H x H'∧tn (i + 1) s2.heap∧∀b∈fp,H' b=none) E s1) E s
 done:∀(X:Cx),X.prog=P→X.w=w→X.K=K→X.calm=true→∀(i:Nat) (pins:List (Addr×Obj)) (s:Shared) (σ:St) (H:Hp) (E:Value→Shared→Prop),Inv X pins σ H s→(∀b∈fp,FpOk X pins H b)→tn i s.heap→J.stop i H →
   wpAny (model P w) X.A (pyNext (.ref it)) (fun r s1=>r=none∧Inv X pins σ H s1) E s
 self:∀(A:Around) (i:Nat) (s:Shared) (Q:Value→Shared→Prop) (E:Value→Shared→Prop),tn i s.heap→Q (.ref it) s→wpAny (model P w) A (pyIter (.ref it)) Q E s
abbrev TI:=St→Hp→(It→Hp→Prop)→Prop
def PIE (X:Cx) (pins:List (Addr×Obj)) (σ:St) (tg:Expr) (R:It→Hp→Prop) (itv:Value) (s2:Shared):Prop :=
 ∃(it:Addr) (fp:List Addr) (tn:Nat→Heap→Prop) (J:It) (H':Hp),itv=.ref it∧Inv X pins σ H' s2∧Turn X.prog X.w X.K tg J fp it tn∧tn 0 s2.heap∧(∀b∈fp,FpOk X pins H' b)∧R J H'
def PI (X:Cx) (tg iter:Expr) (wi:TI):Prop :=
 ∀(pins:List (Addr×Obj)) (s:Shared) (σ:St) (H:Hp) (R:It→Hp→Prop),Inv X pins σ H s→wi σ H R →
   wpAny (model X.prog X.w) X.A (eval iter X.env) (fun v s1=>wpAny (model X.prog X.w) X.A (pyIter v) (PIE X pins σ tg R) X.xe s1) X.xe s

theorem go_of {M:Model}{A:Around}{E:Value→Shared→Prop}{s:Shared}{tg:Expr}{it:Addr}{u:Value}{o:Obj}{n:String}{vs:Array Value}{Q:Unit→Shared→Prop} (ho:s.heap.get? it=some o) (hc:o.cls=.type n) (hd:o.data=.fields vs)
   (hn:["enumerate", "zip", "dict_itemiterator", "dict_reverseitemiterator", "odict_iterator", "itertools.zip_longest", "itertools.pairwise"].contains n=false) (hQ:Q () s):wpAny M A (letOwnedTupleGo tg (.ref it) u) Q E s:=by
 unfold letOwnedTupleGo
 cases tg <;> first
   | exact wpAny_pure hQ
   | (cases u <;> first
       | exact wpAny_pure hQ
       | (refine wpAny_bind (wpAny_load ho ?_)
          rw [hc,hd]
          show wpAny M A (if (["enumerate", "zip", "dict_itemiterator", "dict_reverseitemiterator", "odict_iterator", "itertools.zip_longest", "itertools.pairwise"].contains n && vs[0]? == some (rawInt _))=true then _ else _) Q E s
          rw [if_neg (by intro h;rw [hn,Bool.false_and] at h;cases h)]
          exact wpAny_pure hQ))

def Itl (K:PySem.W.Frag) (a:Addr):It :=
 ⟨fun i H=>∃xs x,SqL K H a xs∧xs[i]? = some x,fun i H x H'=>H'=H∧∀xs,SqL K H a xs→xs[i]? = some x,fun i H=>∃xs,SqL K H a xs∧xs.length≤i⟩
def Itr (lo:Int) (n:Nat):It:=⟨fun i _=>i < n,fun i H x H'=>H'=H∧x=.int (lo + i),fun i _=>n≤i⟩
theorem turn_list {P:Program}{w:World}{K:PySem.W.Frag}{tg:Expr} (a it:Addr):Turn P w K tg (Itl K a) [it] it (fun i h=>h.IsListIter it a i) where
 mem:=by simp
 obj:=fun i h st b hb=>by
   have e:b=it:=by simpa using hb
   subst e
   obtain ⟨o,e,c,d⟩:=st
   exact ⟨o,e,fun v z=>by rw [d] at z;cases z⟩
 keep:=fun i h h' st k=>st.at fun o e=>k it (by simp) o e
 item:=by
   intro X hP hw hK hc i pins s σ H E I hf st hg
   subst hP hw hK
   obtain ⟨xs,x,hq,hx⟩:=hg
   obtain ⟨its,rv,p,hz⟩:=I.list hq
   obtain ⟨u,hu,ru⟩:=rv.get hx
   obtain ⟨f0,f1,f2,f3,f4,f5⟩:=hf it (by simp)
   refine wpAny_pyNext_list_item st p.isList (x:=u) (by simpa using hu) fun h' st' sb=>?_
   have I1:Inv X pins σ H { s with heap:=h' }:=I.turned (t':=s.toks) (fun b o hb e=>(sb.2 b hb).trans e) f0 f1 f3 f4 f5
   obtain ⟨o,e,c,d⟩:=id st'
   exact ⟨u,rfl,go_of (s:={ s with heap:=h' }) e c d (by decide) ⟨x,H,I1,ru,⟨rfl,fun ys hy=>by rw [I.list_inj hy hq];exact hx⟩,st',fun b hb=>(hf b hb).1⟩⟩
 done:=by
   intro X hP hw hK hc i pins s σ H E I hf st hg
   subst hP hw hK
   obtain ⟨xs,hq,hx⟩:=hg
   obtain ⟨its,rv,p,hz⟩:=I.list hq
   obtain ⟨f0,f1,f2,f3,f4,f5⟩:=hf it (by simp)
   have hl:=rv.length
   exact wpAny_pyNext_list_end (I.ok.hd hc) st p.isList (by simp;omega) fun h' eb=>⟨rfl,I.turned (t':=s.toks) (fun b o hb e=>eb b o hb e) f0 f1 f3 f4 f5⟩
 self:=fun _ _ _ _ _ st h=>wpAny_pyIter_listiter st h
theorem turn_range {P:Program}{w:World}{K:PySem.W.Frag}{tg:Expr} (it:Addr) (lo:Int) (n:Nat):Turn P w K tg (Itr lo n) [it] it (fun i h=>IsRangeIter h it (lo + (i:Nat) * 1) ((n:Int) - (i:Nat)) 1) where
 mem:=by simp
 obj:=fun i h st b hb=>by
   have e:b=it:=by simpa using hb
   subst e
   exact ⟨_,st,fun v z=>by
     have z':Data.fields _=Data.cell v:=z
     cases z'⟩
 keep:=fun i h h' st k=>k it (by simp) _ st
 item:=by
   intro X hP hw hK hc i pins s σ H E I hf st hg
   subst hP hw hK
   obtain ⟨f0,f1,f2,f3,f4,f5⟩:=hf it (by simp)
   have W:=Walks.range (prog:=X.prog) (w:=X.w) (I.ok.hd hc) it lo 1 n
   refine W.item i s _ _ hg st fun v h' tk hv st' kk=>?_
   obtain ⟨t,rfl⟩:=hv
   have I1:Inv X pins σ H { s with heap:=h',toks:=tk }:=I.turned (fun b o hb e=>kk b o (by simpa using hb) e) f0 f1 f3 f4 f5
   refine ⟨_,rfl,go_of (s:={ s with heap:=h',toks:=tk }) (n:="range_iterator") st' rfl rfl (by decide) ⟨.int (lo + i),H,I1,⟨t,?_⟩,⟨rfl,rfl⟩,st',fun b hb=>(hf b hb).1⟩⟩
   rw [Int.mul_one]
 done:=by
   intro X hP hw hK hc i pins s σ H E I hf st hg
   subst hP hw hK
   obtain ⟨f0,f1,f2,f3,f4,f5⟩:=hf it (by simp)
   exact wpAny_pyNext_range_end (I.ok.hd hc) st (by have:n≤i:=hg;omega) fun h' eb=>⟨rfl,I.turned (t':=s.toks) (fun b o hb e=>eb b o hb e) f0 f1 f3 f4 f5⟩
 self:=fun _ _ _ _ _ st h=>wpAny_pyIter_rangeiter st h
end L2

namespace L2
open PySem PySem.Spec PyProof.Rows
section
variable {X:Cx}{tg:Expr}
def iList (K:PySem.W.Frag) (tl:TE):TI:=fun σ H R=>tl σ H fun x H1=>∃a,x=.ref a∧(∃xs,SqL K H1 a xs)∧R (Itl K a) H1
theorem pi_list {l:Expr}{tl:TE} (hl:PE X l tl):PI X tg l (iList X.K tl):=by
 intro pins s σ H R I h
 refine thn (hl pins s σ H _ I h) fun v s1 ⟨x,H1,I1,r1,q1⟩=>?_
 obtain ⟨a,e,⟨xs,hq⟩,q⟩:=q1
 subst e
 cases r1
 obtain ⟨its,rv,p,hz⟩:=I1.list hq
 refine wpAny_pyIter_list p.isList ?_
 refine ⟨s1.heap.objs.size,[s1.heap.objs.size],_,_,H1,rfl,I1.kept (t':=s1.toks) fun b o e=>Heap.get?_push_of_some _ e,turn_list a _,⟨_,Heap.get?_push_size _ rfl,rfl,rfl⟩,fun b hb=>?_,q⟩
 have e:b=s1.heap.objs.size:=by simpa using hb
 subst e
 exact I1.fpOk (Nat.le_refl _) (I1.hok.fresh (Nat.le_refl _))
theorem range_it {pins:List (Addr×Obj)}{σ:St}{H:Hp}{s:Shared}{R:It→Hp→Prop}{E:Value→Shared→Prop}{lo hi:Int}{t u v:Tok}{tk:Nat} (I:Inv X pins σ H s) (h1:-(2 ^ 62)≤lo) (h2:lo < 2 ^ 62) (h3:-(2 ^ 62)≤hi) (h4:hi < 2 ^ 62)
   (q:R (Itr lo (hi - lo).toNat) H):wpAny (model X.prog X.w) X.A (pyIter (.ref s.heap.objs.size)) (PIE X pins σ tg R) E { s with heap:=s.heap.push { cls:=.type "range",data:=.fields #[.int lo t,.int hi u,.int 1 v] },toks:=tk }:=by
 refine wpAny_pyIter_range (IsRange.new ..) (small_one h1 h2 h3 h4) ?_
 have I1:Inv X pins σ H { s with heap:=s.heap.push { cls:=.type "range",data:=.fields #[.int lo t,.int hi u,.int 1 v] },toks:=tk }:=I.kept fun b o e=>Heap.get?_push_of_some _ e
 refine ⟨(s.heap.push { cls:=.type "range",data:=.fields #[.int lo t,.int hi u,.int 1 v] }).objs.size,[(s.heap.push { cls:=.type "range",data:=.fields #[.int lo t,.int hi u,.int 1 v] }).objs.size],_,_,H,rfl,
   I1.kept (t':=tk) fun b o e=>Heap.get?_push_of_some _ e,turn_range _ lo (hi - lo).toNat,?_,fun b hb=>?_,q⟩
 · have e1:lo + ((0:Nat):Int) * 1=lo:=by simp
   have e2:(((hi - lo).toNat:Nat):Int) - ((0:Nat):Int)=Builtin.Range.rangeSize lo hi 1:=by rw [rangeSize_one];split <;> omega
   show IsRangeIter _ _ (lo + ((0:Nat):Int) * 1) ((((hi - lo).toNat:Nat):Int) - ((0:Nat):Int)) 1
   rw [e1,e2]
   exact Heap.get?_push_size _ rfl
 · have e:b=(s.heap.push { cls:=.type "range",data:=.fields #[.int lo t,.int hi u,.int 1 v] }).objs.size:=by simpa using hb
   subst e
   exact I1.fpOk (Nat.le_refl _) (I1.hok.fresh (Nat.le_refl _))
def iRng1 (ta:TA):TI:=fun σ H R=>ta σ H fun vs H1=>∃j:Int,vs=[.int j]∧-(2 ^ 62)≤j∧j < 2 ^ 62∧R (Itr 0 j.toNat) H1
theorem pi_range1 {a:Expr}{ta:TA}{p pos:Pos} (hg:Gl X "range") (hm:X.mg "range"=none) (ha:PA X [a] ta) (hs:starEach [a] X.env=[(false,eval a X.env)]:=by rfl):PI X tg (.Call (.Name "range" p) [a] [] pos) (iRng1 ta):=by
 intro pins s σ H R I h
 refine Call_ (ld_blt I hg hm boot_range (PyProof.Rows.callWith_type1 (thn (ha pos pins s σ H _ I h) fun us s1 ⟨vs,H1,I1,r1,q1⟩=>?_) hs rfl))
 obtain ⟨j,e,q1,q2,q⟩:=q1
 subst e
 cases r1 with
 | cons r rr =>
   cases rr
   obtain ⟨t,rfl⟩:=r
   exact call_range_1 (range_it I1 (by omega) (by omega) q1 q2 (by simpa using q))
def tFor (wi:TI) (g:TG) (tb:TS):TS:=fun D σ H=>wi σ H fun J H1=>∃W:Nat→Nat→St→Hp→Prop,(∃m,W 0 m σ H1)∧∀i m σ H,W i m σ H →
 (J.stop i H∧D.nx σ H)∨(J.go i H∧∃N:St→Hp→Prop,(∀σ' H',N σ' H'→∃m',m' < m∧W (i + 1) m' σ' H')∧∀x H',J.yld i H x H'→g x σ H' fun σ2 H2=>tb { D with nx:=N,ct:=N,bk:=D.nx } σ2 H2)
def pinsAt (fp:List Addr) (h:Heap):List (Addr×Obj):=fp.filterMap fun b=>(h.get? b).map fun o=>(b,o)
theorem zfs {fp:List Addr}{h:Heap}{b:Addr}{o:Obj} (hb:b∈fp) (e:h.get? b=some o):(b,o)∈pinsAt fp h:=List.mem_filterMap.mpr ⟨b,hb,by rw [e];rfl⟩
theorem of_pinsAt {fp:List Addr}{h:Heap}{p:Addr×Obj} (hp:p∈pinsAt fp h):p.1∈fp∧h.get? p.1=some p.2:=by
 obtain ⟨b,hb,e⟩:=List.mem_filterMap.mp hp
 cases q:h.get? b with
 | none=>rw [q] at e;cases e
 | some o =>
   rw [q] at e
   have e':(b,o)=p:=Option.some.inj e
   subst e'
   exact ⟨hb,q⟩
theorem Inv.pinned {pins:List (Addr×Obj)}{σ:St}{H:Hp}{s:Shared}{fp:List Addr} (I:Inv X pins σ H s) (hf:∀b∈fp,FpOk X pins H b) (ho:∀b∈fp,∃o,s.heap.get? b=some o∧∀v,o.data≠.cell v):Inv X (pins++pinsAt fp s.heap) σ H s :=
 I.pins_of fun p hp=>(List.mem_append.mp hp).elim (fun z=>I.pin p (List.mem_append_right _ z)) fun z=>by
   obtain ⟨hb,e⟩:=of_pinsAt z
   obtain ⟨f0,f1,f2,_⟩:=hf p.1 hb
   obtain ⟨o,e',d⟩:=ho p.1 hb
   rw [e] at e';cases e'
   exact ⟨e,f0,f1,f2,d⟩
theorem Inv.unpinned {pins pl:List (Addr×Obj)}{σ:St}{H:Hp}{s:Shared} (I:Inv X (pins++pl) σ H s):Inv X pins σ H s:=I.pins_of fun p hp=>I.pin p (List.mem_append_right _ (List.mem_append_left _ hp))
theorem ps_for {iter:Expr}{body:List Stmt}{wi:TI}{g:TG}{tb:TS}{pos:Pos} (hp:PassesOwn (model X.prog X.w) X.A X.env X.xe) (hc:X.calm=true) (hi:PI X tg iter wi) (hg:PG X tg g) (hb:PSs X body tb)
   (hs:∀x,foldedSetIterable iter X.env x=pure x:=by intro _;rfl):PS X (.For tg iter body [] pos) (tFor wi g tb):=by
 intro pins s σ H D I h
 refine wpAny_For (thn (hi pins s σ H _ I h) fun v s1 h1=>thn h1 fun itv s2 h2=>?_) hs
 obtain ⟨it,fp,tn,J,H2,e,I2,T,st2,f2,W,⟨m0,w0⟩,turn⟩:=h2
 subst e
 -- what stays true of the iterator's objects through the loop
 have stat:∀{H':Hp},(∀b∈fp,H' b=none)→∀b∈fp,FpOk X pins H' b:=fun hn b hb=>⟨hn b hb,(f2 b hb).2⟩
 refine codeAny_forLoop_any (fun n s'=>∃i σ' H',Inv X pins σ' H' s'∧tn i s'.heap∧(∀b∈fp,H' b=none)∧W i n σ' H') ?_ m0 ⟨0,σ,H2,I2,st2,fun b hb=>(f2 b hb).1,w0⟩
 rintro n s3 ⟨i,σ3,H3,I3,st3,fr3,w3⟩
 rcases turn i n σ3 H3 w3 with ⟨stop,qn⟩ | ⟨go,N,hN,step⟩
 · refine wpAny_passesOwn hp (thn (T.done X rfl rfl rfl hc i pins s3 σ3 H3 X.xe I3 (stat fr3) st3 stop) fun r s4 ⟨hr,I4⟩=>?_)
   subst hr
   exact wpAny_execs_nil ⟨σ3,H3,I4,qn⟩
 · refine wpAny_passesOwn hp (thn (T.item X rfl rfl rfl hc i pins s3 σ3 H3 X.xe I3 (stat fr3) st3 go) fun r s4 ⟨u,hr,h4⟩=>?_)
   subst hr
   refine wpAny_passesOwn hp (thn h4 fun _ s5 ⟨x,H5,I5,r5,y5,st5,fr5⟩=>?_)
   have I5':=I5.pinned (stat fr5) (T.obj _ _ st5)
   refine wpAny_passesOwn hp (thn (hg _ s5 σ3 H5 x u _ I5' r5 (step x H5 y5)) fun _ s6 ⟨σ6,H6,I6,q6⟩=>?_)
   refine wpAny_passesOwn hp (thn (hb _ s6 σ6 H6 _ I6 q6) fun f s7 q7=>?_)
   have again:∀{σ7:St}{H7:Hp},Inv X (pins++pinsAt fp s5.heap) σ7 H7 s7→N σ7 H7→∃m,m < n∧∃i σ' H',Inv X pins σ' H' s7∧tn i s7.heap∧(∀b∈fp,H' b=none)∧W i m σ' H':=fun {σ7 H7} I7 n7=>by
     obtain ⟨m',hm,w7⟩:=hN σ7 H7 n7
     refine ⟨m',hm,i + 1,σ7,H7,I7.unpinned,T.keep _ _ _ st5 fun b hb o e=>(I7.pin (b,o) (List.mem_append_right _ (List.mem_append_right _ (zfs hb e)))).1,fun b hb=>?_,w7⟩
     obtain ⟨o,e,d⟩:=T.obj _ _ st5 b hb
     exact (I7.pin (b,o) (List.mem_append_right _ (List.mem_append_right _ (zfs hb e)))).2.1
   cases f with
   | next=>obtain ⟨σ7,H7,I7,n7⟩:=q7;exact again I7 n7
   | cont=>obtain ⟨σ7,H7,I7,n7⟩:=q7;exact again I7 n7
   | brk=>obtain ⟨σ7,H7,I7,q7⟩:=q7;exact ⟨σ7,H7,I7.unpinned,q7⟩
   | ret v=>obtain ⟨x7,σ7,H7,I7,r7,q7⟩:=q7;exact ⟨x7,σ7,H7,I7.unpinned,r7,q7⟩
end

theorem for_range {lo:Int}{n:Nat}{g:TG}{tb:TS}{D:Ends}{σ:St}{H:Hp} (Pv:Nat→St→Hp→Prop) (h0:Pv 0 σ H)
   (hs:∀i σ H,i < n→Pv i σ H→g (.int (lo + i)) σ H fun σ2 H2=>tb { D with nx:=Pv (i + 1),ct:=Pv (i + 1),bk:=D.nx } σ2 H2) (hd:∀σ H,Pv n σ H→D.nx σ H) :
   ∃W:Nat→Nat→St→Hp→Prop,(∃m,W 0 m σ H)∧∀i m σ H,W i m σ H →
     ((Itr lo n).stop i H∧D.nx σ H)∨((Itr lo n).go i H∧∃N:St→Hp→Prop,(∀σ' H',N σ' H'→∃m',m' < m∧W (i + 1) m' σ' H')∧∀x H',(Itr lo n).yld i H x H'→g x σ H' fun σ2 H2=>tb { D with nx:=N,ct:=N,bk:=D.nx } σ2 H2):=by
 refine ⟨fun i m σ H=>m=n - i∧i≤n∧Pv i σ H,⟨n,by simp,Nat.zero_le _,h0⟩,?_⟩
 rintro i m σ H ⟨rfl,hi,p⟩
 by_cases hlt:i < n
 · refine .inr ⟨hlt,Pv (i + 1),fun σ' H' p'=>⟨n - (i + 1),by omega,rfl,hlt,p'⟩,fun x H' y=>?_⟩
   obtain ⟨e,y⟩:=y
   subst e y
   exact hs i σ _ hlt p
 · have e:i=n:=by omega
   subst e
   exact .inl ⟨Nat.le_refl _,hd σ H p⟩
end L2

namespace L2
open PySem PySem.Spec PyProof.Rows

abbrev R2:=V→V→Hp→VK→Prop
def OpR (X:Cx) (f:Value→Value→Sem Value) (r:R2):Prop :=
 ∀(pins:List (Addr×Obj)) (s:Shared) (σ:St) (H:Hp) (x y:V) (v u:Value) (Q:VK),Inv X pins σ H s→RelV x v→RelV y u→r x y H Q →
   wpAny (model X.prog X.w) X.A (f v u) (EP X pins σ Q) X.xe s
def UnR (X:Cx) (f:Value→Sem Value) (r:V→Hp→VK→Prop):Prop :=
 ∀(pins:List (Addr×Obj)) (s:Shared) (σ:St) (H:Hp) (x:V) (v:Value) (Q:VK),Inv X pins σ H s→RelV x v→r x H Q →
   wpAny (model X.prog X.w) X.A (f v) (EP X pins σ Q) X.xe s
def CallR (X:Cx) (f:Value) (r:List V→Hp→VK→Prop):Prop :=
 ∀(pins:List (Addr×Obj)) (s:Shared) (σ:St) (H:Hp) (xs:List V) (us:List Value) (Q:VK),Inv X pins σ H s→Vals xs us→r xs H Q →
   wpAny (model X.prog X.w) X.A (call f us) (EP X pins σ Q) X.xe s
def tOp (r:R2) (ta tb:TE):TE:=fun σ H Q=>ta σ H fun x H1=>tb σ H1 fun y H2=>r x y H2 Q
def tUn (r:V→Hp→VK→Prop) (ta:TE):TE:=fun σ H Q=>ta σ H fun x H1=>r x H1 Q
def rI (C:Int→Int→Prop) (g:Int→Int→V):R2:=fun x y H Q=>∃i j,x=.int i∧y=.int j∧C i j∧Q (g i j) H
def rI0 (g:Int→Int→V):R2:=fun x y H Q=>∃i j,x=.int i∧y=.int j∧Q (g i j) H
def rU (g:Int→V):V→Hp→VK→Prop:=fun x H Q=>∃i,x=.int i∧Q (g i) H

section
variable {X:Cx}{a b c:Expr}{ta tb tc:TE}{pos:Pos}

theorem binT (ha:PE X a ta) (hb:PE X b tb) {pins:List (Addr×Obj)}{s:Shared}{σ:St}{H:Hp}{R:V→V→Hp→Prop} (I:Inv X pins σ H s)
   (h:ta σ H fun x H1=>tb σ H1 fun y H2=>R x y H2) {Q:Value→Shared→Prop}{f:Value→Value→Sem Value}
   (hf:∀v u s2 x y H2,Inv X pins σ H2 s2→RelV x v→RelV y u→R x y H2→wpAny (model X.prog X.w) X.A (f v u) Q X.xe s2) :
   wpAny (model X.prog X.w) X.A (eval a X.env) (fun v s₁=>wpAny (model X.prog X.w) X.A (eval b X.env) (fun u s₂=>wpAny (model X.prog X.w) X.A (f v u) Q X.xe s₂) X.xe s₁) X.xe s:=by
 refine thn (ha pins s σ H _ I h) fun v s1 ⟨x,H1,I1,r1,q1⟩=>?_
 refine thn (hb pins s1 σ H1 _ I1 q1) fun u s2 ⟨y,H2,I2,r2,q2⟩=>?_
 exact hf v u s2 x y H2 I2 r1 r2 q2

theorem pe_op {op:Operator}{r:R2} (ho:OpR X (binaryOp op) r) (ha:PE X a ta) (hb:PE X b tb):PE X (.BinOp a op b pos) (tOp r ta tb):=by
 intro pins s σ H Q I h
 exact wpAny_BinOp (binT ha hb I h fun v u s2 x y H2 I2 rx ry q=>ho pins s2 σ H2 x y v u Q I2 rx ry q)
theorem pe_un {op:UnaryOp}{r:V→Hp→VK→Prop} (ho:UnR X (unaryOp op) r) (ha:PE X a ta):PE X (.UnaryOp op a pos) (tUn r ta):=by
 intro pins s σ H Q I h
 exact UnaryOp_ (thn (ha pins s σ H _ I h) fun v s1 ⟨x,H1,I1,r1,q1⟩=>ho pins s1 σ H1 x v Q I1 r1 q1)
theorem opI {f:Value→Value→Sem Value}{C:Int→Int→Prop}{g:Int→Int→Int}
   (rule:∀(i j:Int) (t u:Tok) (s:Shared) (Q:Value→Shared→Prop) (E:Value→Shared→Prop),C i j→Q (.int (g i j) s.toks) { s with toks:=s.toks + 1 }→wpAny (model X.prog X.w) X.A (f (.int i t) (.int j u)) Q E s) :
   OpR X f (rI C fun i j=>.int (g i j)):=by
 intro pins s σ H x y v u Q I rx ry h
 obtain ⟨i,j,rfl,rfl,hc,q⟩:=h
 obtain ⟨t,rfl⟩:=rx
 obtain ⟨t',rfl⟩:=ry
 exact rule i j t t' s _ _ hc ⟨.int (g i j),H,I.tok _,⟨_,rfl⟩,q⟩
theorem opI0 {f:Value→Value→Sem Value}{g:Int→Int→Int}
   (rule:∀(i j:Int) (t u:Tok) (s:Shared) (Q:Value→Shared→Prop) (E:Value→Shared→Prop),Q (.int (g i j) s.toks) { s with toks:=s.toks + 1 }→wpAny (model X.prog X.w) X.A (f (.int i t) (.int j u)) Q E s) :
   OpR X f (rI0 fun i j=>.int (g i j)):=by
 intro pins s σ H x y v u Q I rx ry h
 obtain ⟨i,j,rfl,rfl,q⟩:=h
 obtain ⟨t,rfl⟩:=rx
 obtain ⟨t',rfl⟩:=ry
 exact rule i j t t' s _ _ ⟨.int (g i j),H,I.tok _,⟨_,rfl⟩,q⟩
theorem opB0 {f:Value→Value→Sem Value}{g:Int→Int→Bool}
   (rule:∀(i j:Int) (t u:Tok) (s:Shared) (Q:Value→Shared→Prop) (E:Value→Shared→Prop),Q (.bool (g i j)) s→wpAny (model X.prog X.w) X.A (f (.int i t) (.int j u)) Q E s) :
   OpR X f (rI0 fun i j=>.bl (g i j)):=by
 intro pins s σ H x y v u Q I rx ry h
 obtain ⟨i,j,rfl,rfl,q⟩:=h
 obtain ⟨t,rfl⟩:=rx
 obtain ⟨t',rfl⟩:=ry
 exact rule i j t t' s _ _ ⟨.bl (g i j),H,I,rfl,q⟩

def CDiv (i j:Int):Prop:=0 < j∧j < 1073741824
def CPow (i j:Int):Prop:=0≤j∧j≤1000000∧i.natAbs < 2 ^ 64
def CMul (i j:Int):Prop:=(-(2 ^ 64) < i∧i < 2 ^ 64)∨(-(2 ^ 64) < j∧j < 2 ^ 64)
theorem CMul.ok {i j:Int} (h:CMul i j):IntMulOk i j:=by
 rcases h with ⟨h1,h2⟩ | ⟨h1,h2⟩
 · exact .of_left (intBits_le_64 h1 h2)
 · exact .of_right (intBits_le_64 h1 h2)
theorem op_add:OpR X (binaryOp .Add) (rI0 fun i j=>.int (i + j)):=opI0 fun _ _ _ _ _ _ _ q=>add_int q
theorem op_sub:OpR X (binaryOp .Sub) (rI0 fun i j=>.int (i - j)):=opI0 fun _ _ _ _ _ _ _ q=>sub_int q
theorem op_fdiv:OpR X (binaryOp .FloorDiv) (rI CDiv fun i j=>.int (i / j)):=opI fun i j _ _ _ _ _ hc q=>by
 have h1:(0:Int) < j:=hc.1
 have h2:j < 1073741824:=hc.2
 exact floordiv_int (by omega) (by rw [Int.fdiv_eq_ediv_of_nonneg i (by omega)];exact q) (.inl (PyProof.noPylong_small (by omega)))
theorem op_mod:OpR X (binaryOp .Mod) (rI (fun _ j=>0 < j) fun i j=>.int (i % j)):=opI fun i j _ _ _ _ _ hc q=>by
 have h1:(0:Int) < j:=hc
 exact mod_int' (by omega) (by rw [Int.fmod_eq_emod_of_nonneg i (by omega)];exact q)
theorem op_pow:OpR X (binaryOp .Pow) (rI CPow fun i j=>.int (i ^ j.toNat)):=opI fun _ _ _ _ _ _ _ hc q=>pow_int_small hc.1 hc.2.1 hc.2.2 q
theorem unI {f:Value→Sem Value}{g:Int→Int}
   (rule:∀(i:Int) (t:Tok) (s:Shared) (Q:Value→Shared→Prop) (E:Value→Shared→Prop),Q (.int (g i) s.toks) { s with toks:=s.toks + 1 }→wpAny (model X.prog X.w) X.A (f (.int i t)) Q E s) :
   UnR X f (rU fun i=>.int (g i)):=by
 intro pins s σ H x v Q I rx h
 obtain ⟨i,rfl,q⟩:=h
 obtain ⟨t,rfl⟩:=rx
 exact rule i t s _ _ ⟨.int (g i),H,I.tok _,⟨_,rfl⟩,q⟩
theorem un_neg:UnR X (unaryOp .USub) (rU fun i=>.int (-i)):=unI fun _ _ _ _ _ q=>neg_int q
end

section
variable {X:Cx}{a b c:Expr}{ta tb tc:TE}{pos:Pos}
theorem fin_bl {pins:List (Addr×Obj)}{σ:St}{H:Hp}{s:Shared}{Q:VK}{k k':Bool} (I:Inv X pins σ H s) (q:Q (.bl k) H) (e:k=k'):EP X pins σ Q (.bool k') s:=by
 subst e
 exact ⟨.bl k,H,I,rfl,q⟩
theorem op_lt:OpR X (compareOp .Lt) (rI0 fun i j=>.bl (decide (i < j))):=opB0 fun _ _ _ _ _ _ _ q=>lt_int q
theorem op_le:OpR X (compareOp .LtE) (rI0 fun i j=>.bl (decide (i≤j))):=opB0 fun _ _ _ _ _ _ _ q=>le_int q
theorem op_gt:OpR X (compareOp .Gt) (rI0 fun i j=>.bl (decide (j < i))):=opB0 fun _ _ _ _ _ _ _ q=>gt_int q
theorem op_ge:OpR X (compareOp .GtE) (rI0 fun i j=>.bl (decide (j≤i))):=opB0 fun _ _ _ _ _ _ _ q=>ge_int q
theorem op_isN:OpR X (compareOp .Is) (fun x y H Q=>y=.non∧Q (.bl (decide (x=.non))) H):=by
 intro pins s σ H x y v u Q I rx ry h
 obtain ⟨rfl,q⟩:=h
 cases ry
 refine is_none_gen (fin_bl I q ?_)
 cases x <;> first
   | (cases rx;rfl)
   | (obtain ⟨t,rfl⟩:=rx;rfl)
theorem op_notN:OpR X (compareOp .IsNot) (fun x y H Q=>y=.non∧Q (.bl (!decide (x=.non))) H):=by
 intro pins s σ H x y v u Q I rx ry h
 obtain ⟨rfl,q⟩:=h
 cases ry
 refine isnot_none_gen (fin_bl I q ?_)
 cases x <;> first
   | (cases rx;rfl)
   | (obtain ⟨t,rfl⟩:=rx;rfl)

theorem OpR.or {f:Value→Value→Sem Value}{r r':R2} (h:OpR X f r) (h':OpR X f r'):OpR X f (fun x y H Q=>r x y H Q∨r' x y H Q):=by
 intro pins s σ H x y v u Q I rx ry q
 rcases q with q | q
 · exact h pins s σ H x y v u Q I rx ry q
 · exact h' pins s σ H x y v u Q I rx ry q

theorem nomark (b:Expr) {op:CmpOp} (h:op≠.In:=by decide) (h2:op≠.NotIn:=by decide):behindInMarks op b=false:=by
 have e1:(op == CmpOp.In)=false:=by cases op <;> first | rfl | exact absurd rfl h
 have e2:(op == CmpOp.NotIn)=false:=by cases op <;> first | rfl | exact absurd rfl h2
 cases b <;> simp [behindInMarks,e1,e2]
theorem pe_cmpR {op:CmpOp}{r:R2} (ho:OpR X (compareOp op) r) (ha:PE X a ta) (hb:PE X b tb) (hm:behindInMarks op b=false):PE X (.Compare a [op] [b] pos) (tOp r ta tb):=by
 intro pins s σ H Q I h
 exact wpAny_Compare1 (binT ha hb I h fun v u s2 x y H2 I2 rx ry q=>ho pins s2 σ H2 x y v u Q I2 rx ry q) hm
def tTest (t:TE):TT:=fun σ H Q=>t σ H fun x H'=>∃k,x=.bl k∧Q k H'
theorem pt_cmpR {op:CmpOp}{r:R2} (ho:OpR X (compareOp op) r) (ha:PE X a ta) (hb:PE X b tb) (hm:behindInMarks op b=false):PT X (.Compare a [op] [b] pos) (tTest (tOp r ta tb)):=by
 intro pins s σ H Q I h
 refine wpAny_isTrue_Compare1 (thn (ha pins s σ H _ I h) fun v s1 ⟨x,H1,I1,r1,q1⟩=>thn (hb pins s1 σ H1 _ I1 q1) fun u s2 ⟨y,H2,I2,r2,q2⟩ =>
   thn (ho pins s2 σ H2 x y v u _ I2 r1 r2 q2) fun c s3 ⟨z,H3,I3,r3,k,e,q3⟩=>?_) hm
 subst e
 cases r3
 exact wpAny_truthy_bool ⟨H3,I3,q3⟩
def tChain (r r':R2) (ta tb tc:TE):TE:=fun σ H Q=>ta σ H fun x H1=>tb σ H1 fun y H2=>r x y H2 fun z H3=>∃k,z=.bl k ∧
 (if k=true then tc σ H3 fun w' H4=>r' y w' H4 Q else Q (.bl false) H3)
theorem pt_chain {op op':CmpOp}{r r':R2} (ho:OpR X (compareOp op) r) (ho':OpR X (compareOp op') r') (ha:PE X a ta) (hb:PE X b tb) (hc:PE X c tc)
   (hm:lastMarks [op,op'] [b,c]=false:=by with_unfolding_all rfl):PT X (.Compare a [op,op'] [b,c] pos) (tTest (tChain r r' ta tb tc)):=by
 intro pins s σ H Q I h
 refine isTrue_chain (thn (ha pins s σ H _ I h) fun v s1 ⟨x,H1,I1,r1,q1⟩=>test_link (thn (hb pins s1 σ H1 _ I1 q1) fun u s2 ⟨y,H2,I2,r2,q2⟩ =>
   thn (ho pins s2 σ H2 x y v u _ I2 r1 r2 q2) fun d s3 ⟨z,H3,I3,r3,k,e,q3⟩=>?_)) hm
 subst e
 cases r3
 refine wpAny_truthy_bool ?_
 cases k with
 | false =>
   obtain ⟨k',e',q'⟩:=q3
   cases e'
   exact ite_ff ⟨H3,I3,q'⟩
 | true =>
   refine ite_tt (test_last (thn (hc pins s3 σ H3 _ I3 q3) fun w' s4 ⟨z',H4,I4,r4,q4⟩=>thn (ho' pins s4 σ H4 y z' u w' _ I4 r2 r4 q4) fun d' s5 ⟨z2,H5,I5,r5,k2,e2,q5⟩=>?_))
   subst e2
   cases r5
   exact wpAny_truthy_bool ⟨H5,I5,q5⟩

theorem line63:(sizeLine:Nat) < 2 ^ 63:=by rw [sizeLine_eq];decide
theorem op_add_str:OpR X (binaryOp .Add) (fun x y H Q=>∃i j,x=.str i∧y=.str j∧i.length + j.length≤sizeLine∧Q (.str (i++j)) H):=by
 intro pins s σ H x y v u Q I rx ry h
 obtain ⟨i,j,rfl,rfl,hz,q⟩:=h
 obtain ⟨t,rfl⟩:=rx
 obtain ⟨t',rfl⟩:=ry
 exact add_str (fun t' tk=>⟨.str (i++j),H,I.tok _,⟨_,rfl⟩,q⟩) hz
theorem vals1 {x:V}{us:List Value} (r:Vals [x] us):∃u,us=[u]∧RelV x u:=by
 cases r with
 | cons r1 r2=>cases r2;exact ⟨_,rfl,r1⟩
theorem vals2 {x y:V}{us:List Value} (r:Vals [x,y] us):∃u w',us=[u,w']∧RelV x u∧RelV y w':=by
 cases r with
 | cons r1 r2 =>
   cases r2 with
   | cons r3 r4=>cases r4;exact ⟨_,_,rfl,r1,r3⟩
theorem call_abs:CallR X (.builtin "abs") (fun xs H Q=>∃i,xs=[.int i]∧Q (.int (if i < 0 then -i else i)) H):=by
 intro pins s σ H xs us Q I r h
 obtain ⟨i,rfl,q⟩:=h
 obtain ⟨u,rfl,t,rfl⟩:=vals1 r
 exact call_abs_int fun u tk=>⟨.int (if i < 0 then -i else i),H,I.tok _,⟨_,rfl⟩,q⟩
theorem call_max2 (hc:X.calm=true):CallR X (.builtin "max") (fun xs H Q=>∃i j,xs=[.int i,.int j]∧Q (.int (if j > i then j else i)) H):=by
 intro pins s σ H xs us Q I r h
 obtain ⟨i,j,rfl,q⟩:=h
 obtain ⟨u,w',rfl,⟨t,rfl⟩,⟨t',rfl⟩⟩:=vals2 r
 refine max_two_ints (I.ok.hd hc) fun h' tk k=>⟨_,H,I.kept k,?_,q⟩
 by_cases hj:j > i
 · rw [if_pos hj,if_pos hj];exact ⟨_,rfl⟩
 · rw [if_neg hj,if_neg hj];exact ⟨_,rfl⟩
theorem call_int1:CallR X (.type "int") (fun xs H Q=>(∃i,xs=[.int i]∧Q (.int i) H)∨∃k,xs=[.bl k]∧Q (.int (if k then 1 else 0)) H):=by
 intro pins s σ H xs us Q I r h
 rcases h with ⟨i,rfl,q⟩ | ⟨k,rfl,q⟩
 · obtain ⟨u,rfl,t,rfl⟩:=vals1 r
   exact call_int_int ⟨.int i,H,I,⟨_,rfl⟩,q⟩
 · obtain ⟨u,rfl,r1⟩:=vals1 r
   cases r1
   exact call_int_bool ⟨.int (if k then 1 else 0),H,I.tok _,⟨_,rfl⟩,q⟩
end
end L2

namespace L2
open PySem PySem.Spec PyProof.Rows

structure ObjM (h:Heap) (x dx C:Addr) (mA:Str→Option Value):Prop where
 obj:h.get? x=some (PySem.W.instObj C dx)
 ns:h.Ns1 dx mA
 ne:dx≠x

theorem lookIn_ns {h:Heap}{dx:Addr}{mA:Str→Option Value} (n:h.Ns1 dx mA):∃od,h.get? dx=some od∧∀name,PySem.W.lookIn name od=some (mA name):=by
 obtain ⟨o,es,ep,ho,hd,hk,_,hm⟩:=n
 refine ⟨o,ho,fun name=>?_⟩
 have e:=hm name
 unfold nsFind findBy at e
 rw [← Array.find?_toList] at e
 unfold PySem.W.lookIn
 rw [hd]
 dsimp only
 split
 · rename_i y q
   rw [q] at e
   exact congrArg some e
 · rename_i q
   rw [q] at e
   have a:es.toList.any (·.refKey)=false:=by
     rw [List.any_eq_false]
     intro y hy
     obtain ⟨z,t,hkey⟩:=hk y (Array.mem_toList_iff.mp hy)
     simp [DictEntry.refKey,hkey]
   have a':¬ es.toList.any (·.refKey)=true:=by rw [a];exact Bool.false_ne_true
   rw [if_neg a']
   exact congrArg some e

theorem ObjM.look {h:Heap}{x dx C:Addr}{mA:Str→Option Value} (I:ObjM h x dx C mA):∃od,PySem.W.InstAt h x (PySem.W.instObj C dx) C (some od)∧∀name,PySem.W.lookIn name od=some (mA name) :=
 let ⟨od,ho,hl⟩:=lookIn_ns I.ns
 ⟨od,⟨I.obj,rfl,rfl,ho⟩,hl⟩

section
variable {prog:Program}{w:World}{A:Around}{E:Value→Shared→Prop}{s:Shared}{K:PySem.W.Frag}{x dx C f:Addr}{mA:Str→Option Value}{name:Str}{v:Value}

theorem get_map {expr:Bool}{Q:Value→Shared→Prop} (X:K.In s.heap) (I:ObjM s.heap x dx C mA) (hg:PySem.W.plainGet K C name=true) (hh:PySem.W.hasDictIn K C=true)
   (ha:PySem.W.findIn K (.ref C) name=some none) (hv:mA name=some v) (hv':PySem.W.handedIn v=true) (h:Q v { s with toks:=s.toks + 1 }) :
   wpAny (model prog w) A (getAttr (.ref x) name expr) Q E s:=by
 obtain ⟨od,J,hl⟩:=I.look
 exact PySem.W.get_value X J (PySem.W.plainGet_of hg).1 (PySem.W.findObj_own hh ha rfl (by rw [hl,hv])) hv' h

theorem get_meth {pl:Sem Bool}{Q:Value×List Value→Shared→Prop} (X:K.In s.heap) (I:ObjM s.heap x dx C mA) (hg:PySem.W.plainGet K C name=true)
   (hf:PySem.W.findIn K (.ref C) name=some (some (.ref f))) (ht:PySem.W.isFn K (.ref f)=true) (hv:mA name=none) (h:Q (.ref f,[.ref x]) s) :
   wpAny (model prog w) A (getMethod (.ref x) name pl) Q E s:=by
 obtain ⟨od,J,hl⟩:=I.look
 exact PySem.W.method_fn X J (PySem.W.plainGet_of hg).1 (PySem.W.plainGet_of hg).2 hf (beq_iff_eq.mp ht) (by show (PySem.W.lookIn name od).map (·.isSome)=some false;rw [hl,hv];rfl) h

theorem set_map {ns:List Str}{Q:Unit→Shared→Prop} (X:K.In s.heap) (I:ObjM s.heap x dx C mA)
   (hs:PySem.W.findIn K (.ref C) "__setattr__"=some (some (.builtin "object.__setattr__"))) (hp:PySem.W.plainOver K C=true) (ht:PySem.W.takerIn K C name=some none) (hh:PySem.W.hasDictIn K C=true)
   (hw:PySem.Within mA ns) (hsz:ns.length≤sizeLine)
   (h:∀h',ObjM h' x dx C (fun y=>if y=name then some v else mA y)→Heap.SameBut dx s.heap h'→Q () { s with heap:=h',toks:=s.toks + 2 }) :
   wpAny (model prog w) A (setAttr (.ref x) name v) Q E s:=by
 obtain ⟨od,J,hl⟩:=I.look
 refine PySem.W.set_plain X J hs (PySem.W.osa_open (s:={ s with toks:=s.toks + 1 }) (r:=none) X J hp ht fun b=>?_)
 obtain ⟨cd,hc,hd'⟩:=PySem.W.any_some hh
 have hx:s.heap.get? x=some ⟨.ref C,some dx,.plain,#[]⟩:=I.obj
 refine wpAny_bind (wpAny_pure (wpAny_bind (wpAny_bind (wpAny_loadPart hx (wpAny_bind (PySem.W.Looks.here (s:={ s with toks:=s.toks + 1 }) (PySem.W.looks_clsIn X hc) ?_))))))
 rw [hd']
 refine wpAny_pure (a:=some dx) (wpAny_bind (wpAny_pure (wpAny_bind ?_)))
 refine wpAny_nsSet1 (s:={ s with toks:=s.toks + 1 }) I.ns fun h' hn2 hs2=>?_
 obtain ⟨oD,esD,epD,hoD,hdD,hcD⟩:=hn2.count (PySem.Within.cons name v hw)
 refine wpAny_bind (wpAny_lookBehind hoD (by rw [hdD];exact pastItsLine_dict (Nat.le_trans hcD (by rw [List.length_cons];omega))) ?_)
 exact wpAny_pure (h _ ⟨(hs2.2 _ (Ne.symm I.ne)).trans I.obj,hn2,I.ne⟩ hs2)

theorem make_map {R:Result→Shared→Prop}{vs:List Value}{kw:List (Str×Value)} (X:K.In s.heap) (hm:PySem.W.makesIn K C=true)
   (hi:PySem.W.findIn K (.ref C) "__init__"=some (some (.ref f))) (hf:PySem.W.typeIn K (.ref f)=some (.type "function"))
   (h:codeAny (model prog w) (A.under (.builtin "type.__call__" ⟨.ref C::vs,kw⟩)) (.call (.ref f) ⟨.ref (s.heap.objs.size + 1)::vs,kw⟩) (PySem.W.InitBack (s.heap.objs.size + 1) R)
     { s with heap:=(s.heap.push PySem.W.emptyDict).push (PySem.W.instObj C s.heap.objs.size) }) :
   codeAny (model prog w) A (.call (.ref C) ⟨vs,kw⟩) R s:=by
 obtain ⟨hh,g,d,t,os⟩:=s
 exact PySem.W.make_core (PySem.W.makes_of X hm) (PySem.W.looks_findIn X hi) (fun self=>PySem.W.bind_fn X self hf) (.inl rfl) h
end

def putF (f:Str) (v:V):List (Str×V)→List (Str×V)
 | []=>[(f,v)]
 | (g,x)::r=>if g=f then (g,v)::r else (g,x)::putF f v r
theorem lookup_putF (f g:Str) (v:V):∀fs:List (Str×V),(putF f v fs).lookup g=if g=f then some v else fs.lookup g
 | []=>by
   show List.lookup g [(f,v)]=_
   by_cases h:g=f
   · have hb:(g == f)=true:=beq_iff_eq.mpr h
     simp only [List.lookup,hb,if_pos h]
   · have hb:(g == f)=false:=beq_eq_false_iff_ne.mpr h
     simp only [List.lookup,hb,if_neg h]
 | (k,x)::r=>by
   have ih:=lookup_putF f g v r
   rw [show putF f v ((k,x)::r)=(if k=f then (k,v)::r else (k,x)::putF f v r) from rfl]
   by_cases hk:k=f
   · rw [if_pos hk]
     by_cases h:g=k
     · have hb:(g == k)=true:=beq_iff_eq.mpr h
       simp only [List.lookup,hb,if_pos (h.trans hk)]
     · have hb:(g == k)=false:=beq_eq_false_iff_ne.mpr h
       simp only [List.lookup,hb,if_neg (fun e:g=f=>h (e.trans hk.symm))]
   · rw [if_neg hk]
     by_cases h:g=k
     · have hb:(g == k)=true:=beq_iff_eq.mpr h
       simp only [List.lookup,hb,if_neg (fun e:g=f=>hk (h.symm.trans e))]
     · have hb:(g == k)=false:=beq_eq_false_iff_ne.mpr h
       simp only [List.lookup,hb]
       exact ih
theorem keys_putF (f:Str) (v:V):∀fs:List (Str×V),f∈(putF f v fs).map (·.1)∧∀g,g∈fs.map (·.1)→g∈(putF f v fs).map (·.1)
 | []=>⟨by simp [putF],fun g h=>by simp at h⟩
 | (k,x)::r=>by
   obtain ⟨i1,i2⟩:=keys_putF f v r
   rw [show putF f v ((k,x)::r)=(if k=f then (k,v)::r else (k,x)::putF f v r) from rfl]
   by_cases hk:k=f
   · rw [if_pos hk]
     subst hk
     exact ⟨by simp,fun g h=>by simpa using h⟩
   · rw [if_neg hk]
     refine ⟨?_,fun g h=>?_⟩
     · rw [List.map_cons]
       exact List.mem_cons_of_mem _ i1
     · rw [List.map_cons] at h ⊢
       rcases List.mem_cons.mp h with e | e
       · exact List.mem_cons.mpr (.inl e)
       · exact List.mem_cons_of_mem _ (i2 g e)
theorem length_putF (f:Str) (v:V):∀fs:List (Str×V),(putF f v fs).length≤fs.length + 1
 | []=>by simp [putF]
 | (k,x)::r=>by
   have ih:=length_putF f v r
   rw [show putF f v ((k,x)::r)=(if k=f then (k,v)::r else (k,x)::putF f v r) from rfl]
   by_cases hk:k=f
   · rw [if_pos hk,List.length_cons,List.length_cons];omega
   · rw [if_neg hk,List.length_cons,List.length_cons];omega

theorem RelO.some_of {v:V}{o:Option Value} (r:RelO (some v) o):∃u,o=some u∧RelV v u:=by
 cases o with
 | none=>exact (show False from r).elim
 | some u=>exact ⟨u,rfl,r⟩
theorem RelO.none_of {o:Option Value} (r:RelO none o):o=none:=by
 cases o with
 | none=>rfl
 | some u=>exact (show False from r).elim
theorem handed_of {v:V}{u:Value} (r:RelV v u):PySem.W.handedIn u=true:=by
 cases v with
 | non=>cases (show u=Value.none from r);rfl
 | bl b=>cases (show u=Value.bool b from r);rfl
 | int i=>obtain ⟨t,e⟩:=(show ∃t,u=Value.int i t from r);cases e;rfl
 | str x=>obtain ⟨t,e⟩:=(show ∃t,u=Value.str x t from r);cases e;rfl
 | byt b=>obtain ⟨t,e⟩:=(show ∃t,u=Value.bytes b t from r);cases e;rfl
 | flt b=>obtain ⟨t,e⟩:=(show ∃t,u=Value.float b t from r);cases e;rfl
 | ref a=>cases (show u=Value.ref a from r);rfl
 | ty n=>cases (show u=Value.type n from r);rfl

section
variable {P:Program}{w:World}{H H':Hp}{h h':Heap}{a C dx:Addr}{fs fs':List (Str×V)}
theorem ins_get (hok:HOk P w H h) (e:H a=some (.ins C dx fs)):∃mA,ObjM h a dx C mA∧(∀f,RelO (fs.lookup f) (mA f))∧PySem.Within mA (fs.map (·.1))∧fs.length≤1000∧H dx=some (.own a):=by
 obtain ⟨d,z,ne,ob,mA,n,r,q⟩:=(show ObjOk P w H h a (.ins C dx fs) from hok a _ e)
 exact ⟨mA,⟨ob,n,ne⟩,r,q,z,d⟩
end

structure Cls (K:PySem.W.Frag) (C:Addr):Prop where
 pg:PySem.W.plainGet K C Str.empty=true
 hd:PySem.W.hasDictIn K C=true
 po:PySem.W.plainOver K C=true
 sa:PySem.W.findIn K (.ref C) "__setattr__"=some (some (.builtin "object.__setattr__"))
theorem Cls.get {K:PySem.W.Frag}{C:Addr} (c:Cls K C) (f:Str):PySem.W.plainGet K C f=true:=c.pg
def NoAttr (K:PySem.W.Frag) (C:Addr) (f:Str):Prop:=PySem.W.findIn K (.ref C) f=some none
theorem NoAttr.taker {K:PySem.W.Frag}{C:Addr}{f:Str} (n:NoAttr K C f):PySem.W.takerIn K C f=some none:=by
 unfold PySem.W.takerIn
 rw [show PySem.W.findIn K (.ref C) f=some none from n]
 rfl
structure Meth (K:PySem.W.Frag) (C:Addr) (m:Str) (f:Addr):Prop where
 at_:PySem.W.findIn K (.ref C) m=some (some (.ref f))
 fn:PySem.W.isFn K (.ref f)=true
 kp:PySem.W.keepIn K (.ref f)=true

section
variable {X:Cx}{pins:List (Addr×Obj)}{σ:St}{H:Hp}{s:Shared}{a C dx:Addr}{fs:List (Str×V)}{f:Str}{v:V}{A:Around}{E:Value→Shared→Prop}

theorem getattr_ok {b:Bool}{Q:Value→Shared→Prop} (I:Inv X pins σ H s) (e:H a=some (.ins C dx fs)) (c:Cls X.K C) (n:NoAttr X.K C f) (l:fs.lookup f=some v)
   (h:∀u s',Inv X pins σ H s'→RelV v u→Q u s'):wpAny (model X.prog X.w) A (getAttr (.ref a) f b) Q E s:=by
 obtain ⟨mA,O,r,_,_,_⟩:=ins_get I.hok e
 obtain ⟨u,hu,ru⟩:=RelO.some_of (v:=v) (o:=mA f) (by rw [← l];exact r f)
 exact get_map I.kIn O (c.get f) c.hd n hu (handed_of ru) (h u _ (I.tok _) ru)

theorem getmeth_ok {m:Str}{g:Addr}{pl:Sem Bool}{Q:Value×List Value→Shared→Prop} (I:Inv X pins σ H s) (e:H a=some (.ins C dx fs)) (c:Cls X.K C) (k:Meth X.K C m g) (l:fs.lookup m=none)
   (h:Q (.ref g,[.ref a]) s):wpAny (model X.prog X.w) A (getMethod (.ref a) m pl) Q E s:=by
 obtain ⟨mA,O,r,_,_,_⟩:=ins_get I.hok e
 have hn:mA m=none:=RelO.none_of (by rw [← l];exact r m)
 exact get_meth I.kIn O (c.get m) k.at_ k.fn hn h

theorem setattr_ok {y:V}{u:Value}{Q:Unit→Shared→Prop} (I:Inv X pins σ H s) (e:H a=some (.ins C dx fs)) (c:Cls X.K C) (n:NoAttr X.K C f) (hl:fs.length < 1000) (ry:RelV y u)
   (h:∀s',Inv X pins σ (upd H a (.ins C dx (putF f y fs))) s'→Q () s'):wpAny (model X.prog X.w) A (setAttr (.ref a) f u) Q E s:=by
 obtain ⟨mA,O,r,wi,_,ho⟩:=ins_get I.hok e
 have hz:(fs.map (·.1)).length≤sizeLine:=by rw [List.length_map,sizeLine_eq];omega
 refine set_map I.kIn O c.sa c.po n.taker c.hd wi hz fun h' O' sb=>h _ ?_
 have hd:∃o,h'.get? dx=some o:=let ⟨o,_,_,e',_⟩:=O'.ns;⟨o,e'⟩
 refine I.write (x:=a) (e:=dx) (by rw [e];exact True.intro) (.inr ho) (fun b q hb z=>(sb.2 b hb).trans z) hd ?_
 refine ⟨by rw [zcc O.ne];exact ho,?_,O.ne,O'.obj,_,O'.ns,fun g=>?_,fun g hg=>?_⟩
 · have:=length_putF f y fs;omega
 · show RelO ((putF f y fs).lookup g) (if g=f then some u else mA g)
   rw [lookup_putF]
   by_cases q:g=f
   · rw [if_pos q,if_pos q];exact ry
   · rw [if_neg q,if_neg q];exact r g
 · by_cases q:g=f
   · rw [q];exact (keys_putF f y fs).1
   · refine (keys_putF f y fs).2 g (wi g fun z=>hg ?_)
     show (if g=f then some u else mA g)=none
     rw [if_neg q];exact z

theorem Inv.made (I:Inv X pins σ H s):Inv X pins σ (upd (upd H s.heap.objs.size (.own (s.heap.objs.size + 1))) (s.heap.objs.size + 1) (.ins C s.heap.objs.size []))
   { s with heap:=(s.heap.push PySem.W.emptyDict).push (PySem.W.instObj C s.heap.objs.size) }:=by
 have e1:(s.heap.push PySem.W.emptyDict).get? s.heap.objs.size=some PySem.W.emptyDict:=Heap.get?_push_size s.heap rfl
 have e2:((s.heap.push PySem.W.emptyDict).push (PySem.W.instObj C s.heap.objs.size)).get? (s.heap.objs.size + 1)=some (PySem.W.instObj C s.heap.objs.size):=by
   have:=Heap.get?_push_size (s.heap.push PySem.W.emptyDict) (o:=PySem.W.instObj C s.heap.objs.size) rfl
   rwa [Heap.size_push] at this
 have e3:(s.heap.push PySem.W.emptyDict).Ns s.heap.objs.size (fun _=>none):=⟨PySem.W.emptyDict,#[],_,e1,rfl,(fun e he=>absurd he (by simp)),fun _=>rfl⟩
 have I1:=I.laid (a:=s.heap.objs.size) (o:=.own (s.heap.objs.size + 1)) (h':=s.heap.push PySem.W.emptyDict) (t':=s.toks) (fun b u q=>Heap.get?_push_of_some _ q) (Nat.le_refl _) ⟨_,e1⟩
 refine I1.laid (a:=s.heap.objs.size + 1) (o:=.ins C s.heap.objs.size []) (t':=s.toks) (fun b u q=>Heap.get?_push_of_some _ q) (Nat.le_of_eq (Heap.size_push _ _)) ?_
 have ne:s.heap.objs.size≠s.heap.objs.size + 1:=Nat.ne_of_lt (Nat.lt_succ_self _)
 refine ⟨by rw [zcc ne,zda],Nat.zero_le _,ne,e2,fun _=>none,(Heap.Ns1.of_empty e3).at fun o q=>Heap.get?_push_of_some _ q,fun _=>True.intro,fun y hy=>absurd rfl hy⟩

theorem attr_of {prog:Program}{w:World}{env:Env}{e:Expr}{f:Str}{pos:Pos}{s:Shared}{Q:Value→Shared→Prop} (hb:attributeBase e f env (eval e env)=eval e env)
   (h:wpAny (model prog w) A (eval e env) (fun o s₁=>wpAny (model prog w) A (getAttr o f true) Q E s₁) E s):wpAny (model prog w) A (eval (.Attribute e f pos) env) Q E s :=
 Attribute_any_ h (by rw [arm_eval_Attribute,hb])
end

def tFld (K:PySem.W.Frag) (ta:TE) (f:Str):TE:=fun σ H Q=>ta σ H fun x H1=>∃a C dx fs v,x=.ref a∧H1 a=some (.ins C dx fs)∧Cls K C∧NoAttr K C f∧fs.lookup f=some v∧Q v H1
def sFld (K:PySem.W.Frag) (ta tv:TE) (f:Str):TS:=fun D σ H=>tv σ H fun y H1=>ta σ H1 fun x H2=>∃a C dx fs,x=.ref a∧H2 a=some (.ins C dx fs)∧Cls K C∧NoAttr K C f∧fs.length < 1000 ∧
 D.nx σ (upd H2 a (.ins C dx (putF f y fs)))
section
variable {X:Cx}{o e value:Expr}{f:Str}{pos pos' tpos:Pos}{ta tv:TE}
theorem pe_fld (he:PE X e ta) (hb:attributeBase e f X.env (eval e X.env)=eval e X.env):PE X (.Attribute e f pos) (tFld X.K ta f):=by
 intro pins s σ H Q I h
 refine attr_of hb (thn (he pins s σ H _ I h) fun u s1 ⟨x,H1,I1,rx,a,C,dx,fs,v,ex,ea,c,n,l,q⟩=>?_)
 subst ex
 obtain rfl:u=Value.ref a:=rx
 exact getattr_ok I1 ea c n l fun u' s2 I2 ru=>⟨v,H1,I2,ru,q⟩
theorem ps_fld (ha:PE X o ta) (hv:PE X value tv) (hs:swapsWith value (some (.Attribute o f pos')) pos.line X.env=pure false):PS X (.Assign [.Attribute o f pos'] value pos) (sFld X.K ta tv f):=by
 intro pins s σ H D I h
 refine plainObj_wpAny_Assign_Attribute (thn (hv pins s σ H _ I h) fun u s1 ⟨y,H1,I1,ry,q⟩=>thn (ha pins s1 σ H1 _ I1 q) fun ov s2 ⟨x,H2,I2,rx,a,C,dx,fs,ex,ea,c,n,l,q2⟩=>?_) hs
 subst ex
 obtain rfl:ov=Value.ref a:=rx
 exact setattr_ok I2 ea c n l ry fun s3 I3=>⟨σ,_,I3,q2⟩
end

end L2

namespace L2
open PySem PySem.Spec PyProof.Rows

structure Room (k:Nat) (A:Around):Prop where
 hd:A.handled=none
 dp:A.depth + 3 * k + 5 < recursionLimit
 un:A.units + 16 * k + 200 < cLine
theorem Room.mono {j k:Nat}{A:Around} (r:Room k A) (h:j≤k):Room j A:=⟨r.hd,by have:=r.dp;omega,by have:=r.un;omega⟩
theorem Room.deeper {k:Nat}{A:Around} (r:Room (k + 1) A) (env:Env):Room k (A.deeper env) :=
 ⟨r.hd,by have:=r.dp;show A.depth + 1 + 3 * k + 5 < _;omega,by have:=r.un;show A.units + 3 + 16 * k + 200 < _;omega⟩
theorem make_depth {A:Around}{C:Addr}{us:List Value}{kw:List (Str×Value)}:(A.under (.builtin "type.__call__" ⟨.ref C::us,kw⟩)).depth=A.depth + 1:=by
 first | rfl | simp [Around.under,Code.weight,Code.isCreation,Code.isGuard,Code.isCaller,Code.frames,Code.isFrame,guardIds]
theorem make_units {A:Around}{C:Addr}{us:List Value}{kw:List (Str×Value)}:(A.under (.builtin "type.__call__" ⟨.ref C::us,kw⟩)).units=A.units + 1:=by
 first | rfl | simp [Around.under,Code.cUnits,Code.frames,Code.isFrame]
theorem Room.make {k:Nat}{A:Around} (r:Room (k + 1) A) (C:Addr) (us:List Value) (kw:List (Str×Value)):Room k (A.under (.builtin "type.__call__" ⟨.ref C::us,kw⟩)) :=
 ⟨r.hd,by have:=r.dp;rw [make_depth];omega,by have:=r.un;rw [make_units];omega⟩
theorem Room.depth {k:Nat}{A:Around} (r:Room k A):A.depth < recursionLimit:=by have:=r.dp;omega
def tNil:TA:=fun _ H Q=>Q [] H
def tCons (ta:TE) (tr:TA):TA:=fun σ H Q=>ta σ H fun x H1=>tr σ H1 fun xs H2=>Q (x::xs) H2
section
variable {X:Cx}{e:Expr}{es:List Expr}{te:TE}{t:TA}{pos:Pos}
theorem pa_nil:PA X [] tNil:=fun _ _ _ _ H Q I h=>Calls.spliced_nil ⟨[],H,I,.nil,h⟩
theorem pa_cons (ha:PE X e te) (hr:PA X es t) (hs:starEach (e::es) X.env=(false,eval e X.env)::starEach es X.env:=by rfl):PA X (e::es) (tCons te t):=by
 intro pos pins s σ H Q I h
 rw [hs]
 show wpAny _ _ (spliced ((false,eval e X.env)::backTo pos (starEach es X.env))) _ _ s
 refine Calls.spliced_cons (thn (ha pins s σ H _ I h) fun u s1 ⟨x,H1,I1,r1,q1⟩=>?_)
 exact thn (hr pos pins s1 σ H1 _ I1 q1) fun us s2 ⟨xs,H2,I2,r2,q2⟩=>⟨x::xs,H2,I2,.cons r1 r2,q2⟩

def tTup (t:TA):TE:=fun σ H Q=>t σ H fun xs H1=>xs.length≤sizeLine∧∀p,H1 p=none→Q (.ref p) (upd H1 p (.tup xs))
def tLst (t:TA):TE:=fun σ H Q=>t σ H fun xs H1=>xs.length≤sizeLine∧∀p,H1 p=none→Q (.ref p) (upd H1 p (.lst xs))
theorem pe_tup {x1} (h:PA X es t):PE X (.Tuple es x1 pos) (tTup t):=by
 intro pins s σ H Q I hq
 refine wpAny_Tuple_spliced (thn (h pos pins s σ H _ I hq) fun us s1 ⟨xs,H1,I1,r,z,q⟩=>⟨by rw [← r.length];exact z,?_⟩)
 have hf:H1 s1.heap.objs.size=none:=I1.hok.fresh (Nat.le_refl _)
 refine ⟨.ref s1.heap.objs.size,upd H1 s1.heap.objs.size (.tup xs),I1.laid (t':=s1.toks) (fun b u e=>Heap.get?_push_of_some _ e) (Nat.le_refl _) ?_,rfl,q _ hf⟩
 exact ⟨z,us,r,⟨_,Heap.get?_push_size _ rfl,rfl,_,rfl⟩⟩
theorem pe_lst (h:PA X es t):PE X (.List es pos) (tLst t):=by
 intro pins s σ H Q I hq
 refine wpAny_List_spliced (thn (h pos pins s σ H _ I hq) fun us s1 ⟨xs,H1,I1,r,z,q⟩=>⟨by rw [← r.length];exact z,?_⟩)
 have hf:H1 s1.heap.objs.size=none:=I1.hok.fresh (Nat.le_refl _)
 refine ⟨.ref s1.heap.objs.size,upd H1 s1.heap.objs.size (.lst xs),I1.laid (t':=s1.toks) (fun b u e=>Heap.get?_push_of_some _ e) (Nat.le_refl _) ?_,rfl,q _ hf⟩
 exact ⟨z,us,0,r,Heap.get?_push_size _ rfl⟩
end

abbrev Sp:=List V→Hp→VK→XK→Prop
abbrev CXT:=List Env→Hp→Shared→XK→Value→Shared→Prop

structure Env0 (P:Program) (w:World) (K:PySem.W.Frag) (mg:Str→Option Value) (base:Heap) (A:Around) (outer:List Env) (s:Shared) (H:Hp):Prop where
 frames:A.frames=some outer
 mod:Mod K mg base
 bs:∀b o,base.get? b=some o→s.heap.get? b=some o∧H b=none
 bsz:base.objs.size≤s.heap.objs.size
 funs:s.heap.FunFrames base outer
 frf:∀b∈frs outer,H b=none
 hok:HOk P w H s.heap
 bare:AllBare s.gens
def CE (outer:List Env) (P:Program) (w:World) (H:Hp) (s:Shared) (Q:VK) (u:Value) (s':Shared):Prop :=
 ∃v H',s'.os=s.os∧AllBare s'.gens∧Un (frs outer) [] H H' s.heap s'.heap∧HOk P w H' s'.heap∧RelV v u∧Q v H'
def CR (CX:CXT) (outer:List Env) (P:Program) (w:World) (H:Hp) (s:Shared) (Q:VK) (E:XK) (r:Result) (s':Shared):Prop :=
 match r with
 | .ok (.ret u)=>CE outer P w H s Q u s'
 | .ok _=>False
 | .error e=>CX outer H s E e s'
structure FnOk (P:Program) (w:World) (K:PySem.W.Frag) (mg:Str→Option Value) (base:Heap) (CX:CXT) (k:Nat) (f:Addr) (fd:FuncData) (ps:List Str) (sp:Sp):Prop where
 len:∀vs H Q E,sp vs H Q E→vs.length=ps.length
 run:∀(A:Around) (outer:List Env) (s:Shared) (H:Hp) (args:Args) (us:List Value) (vs:List V) (Q:VK) (E:XK),Room k A→Env0 P w K mg base A outer s H→BindsTo s fd args (ps.zip us)→Vals vs us→sp vs H Q E →
   codeAny (model P w) A (.call (.ref f) args) (CR CX outer P w H s Q E) s
theorem FnOk.imp {P:Program}{w:World}{K:PySem.W.Frag}{mg:Str→Option Value}{base:Heap}{CX:CXT}{k:Nat}{f:Addr}{fd:FuncData}{ps:List Str}{sp sp':Sp} (F:FnOk P w K mg base CX k f fd ps sp)
   (h:∀vs H Q E,sp' vs H Q E→sp vs H Q E):FnOk P w K mg base CX k f fd ps sp' :=
 ⟨fun vs H Q E q=>F.len vs H Q E (h _ _ _ _ q),fun A outer s H args us vs Q E hr he hb hv hs=>F.run A outer s H args us vs Q E hr he hb hv (h _ _ _ _ hs)⟩

theorem Env0.make {P:Program}{w:World}{K:PySem.W.Frag}{mg:Str→Option Value}{base:Heap}{A:Around}{outer:List Env}{s:Shared}{H:Hp} (e:Env0 P w K mg base A outer s H) (C:Addr) (us:List Value) (kw:List (Str×Value)) :
   Env0 P w K mg base (A.under (.builtin "type.__call__" ⟨.ref C::us,kw⟩)) outer s H:=⟨by first | exact e.frames | (simpa [Around.under,Code.envs,Code.isFrame,pushEnvs] using e.frames),e.mod,e.bs,e.bsz,e.funs,e.frf,e.hok,e.bare⟩
section
variable {X:Cx}{pins:List (Addr×Obj)}{σ:St}{H:Hp}{s s':Shared}
theorem Inv.env0 (I:Inv X pins σ H s):Env0 X.prog X.w X.K X.mg X.base X.A X.stack s H :=
 ⟨I.ok.frames,I.ok.mod,I.bs,Nat.le_trans I.ok.bsz I.sz,I.stack,I.stkFree,I.hok,I.bare⟩
theorem Inv.after {Q:VK}{u:Value} (I:Inv X pins σ H s) (h:CE X.stack X.prog X.w H s Q u s'):EP X pins σ Q u s':=by
 obtain ⟨v,H',os,bare,un,hok,r,q⟩:=h
 obtain ⟨hh,g,d,t,os'⟩:=s'
 obtain rfl:os'=s.os:=os
 exact ⟨v,H',I.call (h':=hh) (g':=g) (d':=d) (t':=t) (ch:=[]) un hok bare (fun b z=>absurd z (by simp)),r,q⟩
end

def tCall (sp:Sp) (dvs:List V) (E:XK) (t:TA):TE:=fun σ H Q=>t σ H fun vs H1=>sp (vs++dvs) H1 Q E
def tMeth (C:Addr) (m:Str) (sp:Sp) (dvs:List V) (E:XK) (ta:TE) (t:TA):TE:=fun σ H Q=>ta σ H fun x H1=>∃a dx fs,x=.ref a∧H1 a=some (.ins C dx fs)∧fs.lookup m=none ∧
 t σ H1 fun vs H2=>sp (x::(vs++dvs)) H2 Q E
def tMake (C:Addr) (sp:Sp) (dvs:List V) (E:XK) (t:TA):TE:=fun σ H Q=>t σ H fun vs H1=>∀x dx,H1 x=none→H1 dx=none→dx≠x →
 sp (.ref x::(vs++dvs)) (upd (upd H1 dx (.own x)) x (.ins C dx [])) (fun v H2=>v=.non∧Q (.ref x) H2) E

def Binds (K:PySem.W.Frag) (fd:FuncData) (ps:List Str) (ds:List Value):Prop :=
 ∀(s:Shared) (us:List Value),K.In s.heap→(us++ds).length=ps.length→BindsTo s fd ⟨us,[]⟩ (ps.zip (us++ds))
theorem Binds.all {K:PySem.W.Frag}{fd:FuncData}{ps:List Str} (h:∀us:List Value,us.length=ps.length→bindArgs fd ⟨us,[]⟩=pure (ps.zip us)):Binds K fd ps []:=fun s us _ hl=>by
 rw [List.append_nil] at hl ⊢
 exact .of_eq (h us hl)

def Passes (CX:CXT) (X:Cx) (E:XK):Prop:=∀(pins:List (Addr×Obj)) (σ:St) (H:Hp) (s:Shared) (e:Value) (s':Shared),Inv X pins σ H s→CX X.stack H s E e s'→X.xe e s'

section
variable {X:Cx}{CX:CXT}{k:Nat}{f C:Addr}{fd:FuncData}{ps:List Str}{sp:Sp}{dvs:List V}{ds:List Value}{E:XK}{x m:Str}{p pos apos:Pos}{e o:Expr}{es:List Expr}{ta:TE}{t:TA}

theorem run_fn {pins:List (Addr×Obj)}{σ:St}{H:Hp}{s:Shared}{Q:VK}{us:List Value}{vs:List V} (F:FnOk X.prog X.w X.K X.mg X.base CX k f fd ps sp) (hr:Room k X.A) (hb:Binds X.K fd ps ds) (hd:Vals dvs ds) (hx:Passes CX X E)
   (I:Inv X pins σ H s) (r:Vals vs us) (h:sp (vs++dvs) H Q E):wpAny (model X.prog X.w) X.A (call (.ref f) us) (EP X pins σ Q) X.xe s:=by
 have r2:Vals (vs++dvs) (us++ds):=r.append hd
 have hl:(us++ds).length=ps.length:=by rw [← r2.length];exact F.len _ _ _ _ h
 refine wpAny_call (codeAny_mono (F.run X.A X.stack s H ⟨us,[]⟩ (us++ds) (vs++dvs) Q E hr I.env0 (hb s us I.kIn hl) r2 h) fun r s' hq=>?_)
 cases r with
 | error e=>exact hx pins σ H s e s' I hq
 | ok fl =>
   cases fl with
   | ret u=>exact I.after hq
   | next=>exact False.elim hq
   | brk=>exact False.elim hq
   | cont=>exact False.elim hq

theorem pe_call (F:FnOk X.prog X.w X.K X.mg X.base CX k f fd ps sp) (hr:Room k X.A) (hg:Gl X x) (hm:X.mg x=some (.ref f)) (hk:PySem.W.keepIn X.K (.ref f)=true) (hb:Binds X.K fd ps ds) (hd:Vals dvs ds) (hx:Passes CX X E)
   (ha:PA X (e::es) t) (hdb:(x == ("__debug__":Str))=false:=by decide) (he:starEach (e::es) X.env=(false,eval e X.env)::starEach es X.env:=by rfl) (hpl:(backTo pos (starEach es X.env)).any (·.1)=false:=by rfl) :
   PE X (.Call (.Name x p) (e::es) [] pos) (tCall sp dvs E t):=by
 intro pins s σ H Q I h
 refine wpAny_Call_Name_kw (ld_glob I hg hm ?_ hdb)
 refine PySem.W.callWith_K (h₀:=X.base) I.ok.mod.kin hk (thn (ha pos pins s σ H _ I h) fun us s1 ⟨vs,H1,I1,r,q⟩=>⟨I1.kIn,?_⟩) he hpl
 exact run_fn F hr hb hd hx I1 r q
theorem pe_meth {pl:Sem Bool} (he:PE X o ta) (c:Cls X.K C) (hm:Meth X.K C m f) (F:FnOk X.prog X.w X.K X.mg X.base CX k f fd ps sp) (hr:Room k X.A) (hb:Binds X.K fd ps ds) (hd:Vals dvs ds) (hx:Passes CX X E) (ha:PA X (e::es) t)
   (hst:starEach (e::es) X.env=(false,eval e X.env)::starEach es X.env:=by rfl) (hpl:(backTo pos (starEach es X.env)).any (·.1)=false:=by rfl)
   (ht:eval (.Call (.Attribute o m apos) (e::es) [] pos) X.env=(do
     let ov ← eval o X.env
     standAt apos.atName
     let (f,first) ← holding [ov] (getMethod ov m pl)
     callWith pos f first (backTo pos (starEach (e::es) X.env)) (backToKw pos (keywordEach [] X.env))):=by rfl) :
   PE X (.Call (.Attribute o m apos) (e::es) [] pos) (tMeth C m sp dvs E ta t):=by
 intro pins s σ H Q I h
 refine PySem.W.methodCall_KW (pl:=pl) (thn (he pins s σ H _ I h) fun u s1 ⟨x,H1,I1,rx,a,dx,fs,ex,ea,l,q⟩=>?_) ht
 subst ex
 obtain rfl:u=Value.ref a:=rx
 refine getmeth_ok I1 ea c hm l ?_
 refine PySem.W.callWith_K (first:=[.ref a]) (h₀:=X.base) I.ok.mod.kin hm.kp (thn (ha pos pins s1 σ H1 _ I1 q) fun us s2 ⟨vs,H2,I2,r,q2⟩=>⟨I2.kIn,?_⟩) hst hpl
 exact run_fn (us:=.ref a::us) (vs:=.ref a::vs) F hr hb hd hx I2 (.cons rfl r) q2
theorem pe_meth0 {pl:Sem Bool} (he:PE X o ta) (c:Cls X.K C) (hm:Meth X.K C m f) (F:FnOk X.prog X.w X.K X.mg X.base CX k f fd ps sp) (hr:Room k X.A) (hb:Binds X.K fd ps ds) (hd:Vals dvs ds) (hx:Passes CX X E)
   (ht:eval (.Call (.Attribute o m apos) [] [] pos) X.env=(do
     let ov ← eval o X.env
     standAt apos.atName
     let (f,first) ← holding [ov] (getMethod ov m pl)
     callWith pos f first (backTo pos (starEach [] X.env)) (backToKw pos (keywordEach [] X.env))):=by rfl) :
   PE X (.Call (.Attribute o m apos) [] [] pos) (tMeth C m sp dvs E ta tNil):=by
 intro pins s σ H Q I h
 refine PySem.W.methodCall_KW (pl:=pl) (thn (he pins s σ H _ I h) fun u s1 ⟨x,H1,I1,rx,a,dx,fs,ex,ea,l,q⟩=>?_) ht
 subst ex
 obtain rfl:u=Value.ref a:=rx
 refine getmeth_ok I1 ea c hm l ?_
 exact PySem.W.callWith_K0 (first:=[.ref a]) I1.kIn hm.kp (run_fn (us:=[.ref a]) (vs:=[.ref a]) F hr hb hd hx I1 (.cons rfl .nil) q)

structure Mk (K:PySem.W.Frag) (C f:Addr):Prop where
 makes:PySem.W.makesIn K C=true
 init:PySem.W.findIn K (.ref C) "__init__"=some (some (.ref f))
 fn:PySem.W.isFn K (.ref f)=true
 kp:PySem.W.keepIn K (.ref C)=true

theorem run_make {pins:List (Addr×Obj)}{σ:St}{H:Hp}{s:Shared}{Q:VK}{us:List Value}{vs:List V} (M:Mk X.K C f) (F:FnOk X.prog X.w X.K X.mg X.base CX k f fd ps sp) (hr:Room (k + 1) X.A) (hb:Binds X.K fd ps ds) (hd:Vals dvs ds)
   (hx:Passes CX X E) (I:Inv X pins σ H s) (r:Vals vs us)
   (h:∀x dx,H x=none→H dx=none→dx≠x→sp (.ref x::(vs++dvs)) (upd (upd H dx (.own x)) x (.ins C dx [])) (fun v H2=>v=.non∧Q (.ref x) H2) E) :
   wpAny (model X.prog X.w) X.A (call (.ref C) us) (EP X pins σ Q) X.xe s:=by
 have hq:=h (s.heap.objs.size + 1) s.heap.objs.size (I.hok.fresh (Nat.le_succ _)) (I.hok.fresh (Nat.le_refl _)) (Nat.ne_of_lt (Nat.lt_succ_self _))
 have I2:=Inv.made (C:=C) I
 have r2:Vals (V.ref (s.heap.objs.size + 1)::(vs++dvs)) (Value.ref (s.heap.objs.size + 1)::(us++ds)):=.cons rfl (r.append hd)
 have hl:(Value.ref (s.heap.objs.size + 1)::us++ds).length=ps.length:=by
   have e:=r2.length
   rw [F.len _ _ _ _ hq] at e
   exact e.symm
 refine wpAny_call (make_map (f:=f) I.kIn M.makes M.init (beq_iff_eq.mp M.fn) (codeAny_mono (F.run _ X.stack _ _ ⟨Value.ref (s.heap.objs.size + 1)::us,[]⟩ (Value.ref (s.heap.objs.size + 1)::(us++ds)) _ _ E (hr.make C us [])
   (I2.env0.make C us []) (hb _ (Value.ref (s.heap.objs.size + 1)::us) I2.kIn hl) r2 hq) fun r s' hq'=>?_))
 cases r with
 | error e=>exact hx pins σ _ _ e s' I2 hq'
 | ok fl =>
   cases fl with
   | ret u =>
     obtain ⟨v,H',I3,rv,ev,q3⟩:=I2.after hq'
     subst ev
     exact ⟨rv,⟨V.ref (s.heap.objs.size + 1),H',I3,rfl,q3⟩⟩
   | next=>exact False.elim hq'
   | brk=>exact False.elim hq'
   | cont=>exact False.elim hq'
theorem pe_make (M:Mk X.K C f) (F:FnOk X.prog X.w X.K X.mg X.base CX k f fd ps sp) (hr:Room (k + 1) X.A) (hg:Gl X x) (hm:X.mg x=some (.ref C)) (hb:Binds X.K fd ps ds) (hd:Vals dvs ds) (hx:Passes CX X E)
   (ha:PA X (e::es) t) (hdb:(x == ("__debug__":Str))=false:=by decide) (he:starEach (e::es) X.env=(false,eval e X.env)::starEach es X.env:=by rfl) (hpl:(backTo pos (starEach es X.env)).any (·.1)=false:=by rfl) :
   PE X (.Call (.Name x p) (e::es) [] pos) (tMake C sp dvs E t):=by
 intro pins s σ H Q I h
 refine wpAny_Call_Name_kw (ld_glob I hg hm ?_ hdb)
 refine PySem.W.callWith_K (h₀:=X.base) I.ok.mod.kin M.kp (thn (ha pos pins s σ H _ I h) fun us s1 ⟨vs,H1,I1,r,q⟩=>⟨I1.kIn,?_⟩) he hpl
 exact run_make M F hr hb hd hx I1 r q
theorem pe_make0 (M:Mk X.K C f) (F:FnOk X.prog X.w X.K X.mg X.base CX k f fd ps sp) (hr:Room (k + 1) X.A) (hg:Gl X x) (hm:X.mg x=some (.ref C)) (hb:Binds X.K fd ps ds) (hd:Vals dvs ds) (hx:Passes CX X E)
   (hdb:(x == ("__debug__":Str))=false:=by decide):PE X (.Call (.Name x p) [] [] pos) (tMake C sp dvs E tNil):=by
 intro pins s σ H Q I h
 refine wpAny_Call_Name_kw (ld_glob I hg hm ?_ hdb)
 exact PySem.W.callWith_K0 I.kIn M.kp (run_make (us:=[]) M F hr hb hd hx I .nil h)
end


structure FnScope (N P:List Str) (sc:Scope):Prop where
 kind:sc.kind=.function
 co:sc.isCoroutine=false
 gen:sc.isGenerator=false
 nd:N.Nodup
 pre:N.take P.length=P
 par:∀x∈P,sc.names.lookup x=some .local∨sc.names.lookup x=some .cell
 nofree:∀y∈sc.names,y.2≠.free

theorem bindL_out {kindOf:Str→Option NameKind}{x:Str}:∀{binds:List (Str×Value)}{m:Str→Option Value},(∀v,(x,v)∉binds)→bindL kindOf binds m x=m x
 | [],_,_=>rfl
 | (n,v)::r,m,h=>by
   unfold bindL
   rw [bindL_out fun w hw=>h w (List.mem_cons_of_mem _ hw)]
   split
   · have:x≠n:=by rintro rfl;exact h v List.mem_cons_self
     simp [this]
   · rfl
theorem bindC_out {kindOf:Str→Option NameKind}{x:Str}:∀{binds:List (Str×Value)}{m:Str→Option Value},(∀v,(x,v)∉binds)→bindC kindOf binds m x=m x
 | [],_,_=>rfl
 | (n,v)::r,m,h=>by
   unfold bindC
   rw [bindC_out fun w hw=>h w (List.mem_cons_of_mem _ hw)]
   split
   · rfl
   · have:x≠n:=by rintro rfl;exact h v List.mem_cons_self
     simp [this]
theorem bindL_get {kindOf:Str→Option NameKind}{x:Str}{v:Value}:∀{P:List Str}{vs:List Value}{i:Nat}{m:Str→Option Value},P.Nodup→P[i]? = some x→vs[i]? = some v→kindOf x=some .local →
   bindL kindOf (P.zip vs) m x=some v
 | [],_,_,_,_,h,_,_=>by simp at h
 | _::_,[],_,_,_,_,h,_=>by simp at h
 | p::P,w::vs,0,m,nd,h1,h2,hk=>by
   simp at h1 h2;subst h1;subst h2
   show bindL kindOf ((p,w)::P.zip vs) m p=_
   unfold bindL
   rw [bindL_out fun v hv=>(List.nodup_cons.mp nd).1 (List.of_mem_zip hv).1,if_pos hk]
   simp
 | p::P,w::vs,i + 1,m,nd,h1,h2,hk=>by
   show bindL kindOf ((p,w)::P.zip vs) m x=_
   unfold bindL
   exact bindL_get (i:=i) (List.nodup_cons.mp nd).2 (by simpa using h1) (by simpa using h2) hk
theorem bindC_get {kindOf:Str→Option NameKind}{x:Str}{v:Value}:∀{P:List Str}{vs:List Value}{i:Nat}{m:Str→Option Value},P.Nodup→P[i]? = some x→vs[i]? = some v→kindOf x≠some .local →
   bindC kindOf (P.zip vs) m x=some v
 | [],_,_,_,_,h,_,_=>by simp at h
 | _::_,[],_,_,_,_,h,_=>by simp at h
 | p::P,w::vs,0,m,nd,h1,h2,hk=>by
   simp at h1 h2;subst h1;subst h2
   show bindC kindOf ((p,w)::P.zip vs) m p=_
   unfold bindC
   rw [bindC_out fun v hv=>(List.nodup_cons.mp nd).1 (List.of_mem_zip hv).1,if_neg hk]
   simp
 | p::P,w::vs,i + 1,m,nd,h1,h2,hk=>by
   show bindC kindOf ((p,w)::P.zip vs) m x=_
   unfold bindC
   exact bindC_get (i:=i) (List.nodup_cons.mp nd).2 (by simpa using h1) (by simpa using h2) hk

def start (N:List Str) (vs:List V):St:=vs.map some++List.replicate (N.length - vs.length) none

def cxOf (CX:CXT) (P:Program) (w:World) (K:PySem.W.Frag) (mg:Str→Option Value) (base:Heap) (N:List Str) (qual:Str) (scope:Scope) (f:Addr) (cd:Value) (A:Around) (outer:List Env) (s:Shared) (H:Hp) (E:XK):Cx where
 prog:=P
 w:=w
 K:=K
 mg:=mg
 base:=base
 A:=A.deeper (envOfC qual scope s.heap.objs.size f cd)
 N:=N
 s₀:=s
 H₀:=H
 env:=envOfC qual scope s.heap.objs.size f cd
 outer:=outer
 stack:=envOfC qual scope s.heap.objs.size f cd::outer
 ex:=[]
 calm:=true
 fn:=fun _=>true
 pn:=[]
 xe:=fun e s'=>wpAny (model P w) (A.deeper (envOfC qual scope s.heap.objs.size f cd)) (leaving (envOfC qual scope s.heap.objs.size f cd) e) (fun _ s''=>CX outer H s E e s'') (fun e' s''=>CX outer H s E e' s'') s'

theorem cell_has {sc:Scope}{n:Nat}{x:Str} (h:sc.names.lookup x=some .cell):∃c,(cellsFrom n sc.names []).lookup x=some c:=by
 have q:=PySem.W.cellsFrom_some sc.names n [] (.inl h)
 exact Option.isSome_iff_exists.mp q

theorem inv_start {CX:CXT}{P:Program}{w:World}{K:PySem.W.Frag}{mg:Str→Option Value}{base:Heap}{N ps:List Str}{qual:Str}{scope:Scope}{f:Addr}{cd:Value}{A:Around}{outer:List Env}{s s1:Shared}{H:Hp}{E:XK}{us:List Value}{vs:List V}
   (S:FnScope N ps scope) (hd:A.handled=none) (e0:Env0 P w K mg base A outer s H) (hl:vs.length=ps.length) (r:Vals vs us)
   (x:InCallC s s.heap.objs.size (bindL (envOfC qual scope s.heap.objs.size f cd).kindOf (ps.zip us) fun _=>none) (cellsFrom (s.heap.objs.size + 1) scope.names []) (bindC (envOfC qual scope s.heap.objs.size f cd).kindOf (ps.zip us) fun _=>none) s1) :
   Inv (cxOf CX P w K mg base N qual scope f cd A outer s H E) [] (start N vs) H s1:=by
 have hpl:ps.length≤N.length:=by have:=congrArg List.length S.pre;rw [List.length_take] at this;omega
 obtain ⟨h1,tk,rfl,hk⟩:=x.done
 have noA:∀b:Addr,b∉(cxOf CX P w K mg base N qual scope f cd A outer s H E).ex:=fun b z=>absurd (show b∈([]:List Addr) from z) (by simp)
 refine ⟨⟨e0.mod,S.kind,rfl,rfl,Nat.le_refl _,fun y z c h1 h2=>?_,fun y hy=>?_,fun y c _ h=>?_,fun _=>hd,Around.frames_deeper e0.frames,.inr ⟨rfl,rfl⟩,fun b z=>absurd z (noA b),e0.bs,e0.bsz,fun b _ _=>noA b,fun b z=>absurd z (noA b),e0.funs,e0.frf⟩,
   rfl,e0.bare,Un.kept hk,⟨_,x.toInCall.ns,fun i y v h1 h2 h3=>?_⟩,fun y c h=>⟨_,x.cell y c h⟩,e0.hok.fresh (Nat.le_refl _),fun y c h=>?_,fun p hp=>absurd (show p∈([]:List (Addr×Obj)) from hp) (by simp),e0.hok.kept hk,?_⟩
 · exact name_of_addr x.apart (PySem.mem_of_lookup h1) (PySem.mem_of_lookup h2)
 · have hy:scope.names.lookup y=some .cell∨scope.names.lookup y=some .free:=hy
   rcases hy with hy | hy
   · exact cell_has hy
   · exact absurd rfl (S.nofree _ (PySem.mem_of_lookup hy))
 · exact Nat.le_of_lt (x.above y c (PySem.mem_of_lookup h))
 · have hi:i < vs.length:=by
     unfold start at h2
     by_cases hi:i < vs.length
     · exact hi
     · rw [List.getElem?_append_right (by simpa using hi)] at h2
       rw [List.getElem?_replicate] at h2
       split at h2 <;> cases h2
   have ha:vs[i]? = some v:=by
     unfold start at h2
     rw [List.getElem?_append_left (by simpa using hi),List.getElem?_map] at h2
     cases e:vs[i]? with
     | none=>rw [e] at h2;cases h2
     | some a=>rw [e] at h2;cases h2;rfl
   obtain ⟨u,hu,rv⟩:=r.get ha
   have hp:ps[i]? = some y:=by
     rw [← S.pre,List.getElem?_take_of_lt (by omega)];exact h1
   have ndP:ps.Nodup:=by rw [← S.pre];exact S.nd.sublist (List.take_sublist _ _)
   refine ⟨u,rv,?_⟩
   rcases S.par y (List.mem_of_getElem? hp) with k | k
   · exact .inl ⟨k,bindL_get ndP hp hu k⟩
   · obtain ⟨c,e⟩:=cell_has (n:=s.heap.objs.size + 1) k
     refine .inr ⟨.inl k,c,e,?_⟩
     have q:=x.cell y c e
     rw [bindC_get ndP hp hu (by show scope.names.lookup y≠_;rw [k];decide)] at q
     exact q
 · exact e0.hok.fresh (Nat.le_of_lt (x.above y c (PySem.mem_of_lookup h)))
 · unfold start
   show _=N.length
   rw [List.length_append,List.length_map,List.length_replicate]
   omega

theorem fn_of {CX:CXT}{P:Program}{w:World}{K:PySem.W.Frag}{mg:Str→Option Value}{base:Heap}{k:Nat}{f:Addr}{name qual:Str}{params:Arguments}{body:List Stmt}{scope:Scope}{dV kV doc pm cdv ct oc:Value}{an od:Option Addr}
   {osl:Array (Option Value)}{N ps:List Str}{sp:Sp} (lk:K.lookup f=some ⟨oc,od,.func (PySem.W.fnOf name qual params body scope dV kV doc pm an cdv ct),osl⟩) (hcd:PySem.W.codeIn K cdv qual=true) (S:FnScope N ps scope)
   (len:∀vs H Q E,sp vs H Q E→vs.length=ps.length)
   (hbody:∀(A:Around) (outer:List Env) (s:Shared) (H:Hp) (vs:List V) (Q:VK) (E:XK),Room k (A.deeper (envOfC qual scope s.heap.objs.size f cdv))→sp vs H Q E →
     ∃t,PSs (cxOf CX P w K mg base N qual scope f cdv A outer s H E) body t∧t { nx:=fun _ H'=>Q .non H',rt:=Q } (start N vs) H) :
   FnOk P w K mg base CX (k + 1) f (PySem.W.fnOf name qual params body scope dV kV doc pm an cdv ct) ps sp:=by
 refine ⟨len,fun A outer s H args us vs Q E hr e0 hb r hsp=>?_⟩
 have hl:=len _ _ _ _ hsp
 have KX:K.In s.heap:=e0.mod.kin.keeps fun b o e=>(e0.bs b o e).1
 have lim:s.heap.NoLimit:=e0.mod.nolimit.keeps fun b o e=>(e0.bs b o e).1
 have hkind:∀y∈ps.zip us,scope.names.lookup y.1=some .local∨(scope.names.lookup y.1=some .cell∧((cellsFrom (s.heap.objs.size + 1) scope.names []).lookup y.1).isSome=true):=fun ⟨n,v⟩ hy=>by
   rcases S.par n (List.of_mem_zip hy).1 with q | q
   · exact .inl q
   · exact .inr ⟨q,PySem.W.cellsFrom_some _ _ _ (.inl q)⟩
 refine codeAny_call_function hr.depth (KX _ _ lk) rfl S.co S.gen rfl (PySem.W.codeRec_of KX hcd) (hb _ _ _ _ ?_)
 refine wpAny_newFunctionEnv_cells S.kind hkind fun env he s1 x=>?_
 subst he
 refine ⟨lim.keeps x.toInCall.keep,codeAny_func ?_⟩
 obtain ⟨t,ht,hq⟩:=hbody A outer s H vs Q E (hr.deeper _) hsp
 have I:Inv (cxOf CX P w K mg base N qual scope f cdv A outer s H E) [] (start N vs) H s1:=inv_start S hr.hd e0 hl r x
 refine wpAny_mono (ht [] s1 (start N vs) H _ I hq) (fun fl s' hs=>?_) fun e s' hs=>hs
 have fin:∀{σ':St}{H':Hp}{v:V}{u:Value},Inv (cxOf CX P w K mg base N qual scope f cdv A outer s H E) [] σ' H' s'→RelV v u→Q v H'→CE outer P w H s Q u s' :=
   fun {σ' H' v u} J rv q=>⟨v,H',J.os,J.bare,J.base,J.hok,rv,q⟩
 cases fl with
 | ret u =>
   obtain ⟨v,σ',H',J,rv,q⟩:=hs
   exact fin J rv q
 | next =>
   obtain ⟨σ',H',J,q⟩:=hs
   exact fin (v:=V.non) (u:=Value.none) J rfl q
 | brk =>
   obtain ⟨_,_,_,q⟩:=hs
   exact False.elim q
 | cont =>
   obtain ⟨_,_,_,q⟩:=hs
   exact False.elim q
end L2

namespace L2
open PySem PySem.Spec PyProof.Rows
section
variable {X:Cx}{x:Str}{p pos:Pos}{e:Expr}{es:List Expr}{t:TA}{id T:String}{r:List V→Hp→VK→Prop}

def tCB (r:List V→Hp→VK→Prop) (t:TA):TE:=fun σ H Q=>t σ H fun vs H1=>r vs H1 Q
theorem pe_callB (hc:CallR X (.builtin id) r) (hg:Gl X x) (hm:X.mg x=none) (hv:bootBuiltins x=some (.builtin id)) (ha:PA X (e::es) t) (hn:x≠"__name__":=by decide) (hdb:(x == ("__debug__":Str))=false:=by decide)
   (he:starEach (e::es) X.env=(false,eval e X.env)::starEach es X.env:=by rfl) (hpl:(backTo pos (starEach es X.env)).any (·.1)=false:=by rfl):PE X (.Call (.Name x p) (e::es) [] pos) (tCB r t):=by
 intro pins s σ H Q I h
 refine wpAny_Call_Name_kw (ld_blt I hg hm hv ?_ hn hdb)
 exact PyProof.Rows.callWith_builtin1 (thn (ha pos pins s σ H _ I h) fun us s1 ⟨vs,H1,I1,r1,q1⟩=>hc pins s1 σ H1 vs us Q I1 r1 q1) he hpl
theorem pe_callTy (hc:CallR X (.type T) r) (hg:Gl X x) (hm:X.mg x=none) (hv:bootBuiltins x=some (.type T)) (ha:PA X (e::es) t) (hn:x≠"__name__":=by decide) (hdb:(x == ("__debug__":Str))=false:=by decide)
   (he:starEach (e::es) X.env=(false,eval e X.env)::starEach es X.env:=by rfl) (hpl:(backTo pos (starEach es X.env)).any (·.1)=false:=by rfl):PE X (.Call (.Name x p) (e::es) [] pos) (tCB r t):=by
 intro pins s σ H Q I h
 refine wpAny_Call_Name_kw (ld_blt I hg hm hv ?_ hn hdb)
 exact PyProof.Rows.callWith_type1 (thn (ha pos pins s σ H _ I h) fun us s1 ⟨vs,H1,I1,r1,q1⟩=>hc pins s1 σ H1 vs us Q I1 r1 q1) he hpl
end
end L2

namespace HT
open PySem PyProof.Rows

section
open PySem.SeqAt
open PySem.AutoSeq1 (wpAny_loadPart')
open PySem.MeetsSeq PySem.MeetsSeq2 PySem.MeetsSeq3

end

section
variable {prog:Program}{w:World}{A:Around}{E:Value→Shared→Prop}{s:Shared}

theorem cat_tup {t b:Addr}{vs ws:List Value}{Q:Value→Shared→Prop} (ht:IsTup s.heap t vs.toArray) (hb:IsTup s.heap b ws.toArray) (hv:vs≠[])
   (h1:ws=[]→Q (.ref t) s) (h2:ws≠[]→Q (.ref s.heap.objs.size) { s with heap:=s.heap.push { cls:=.type "tuple",data:=.seq (vs++ws).toArray } })
   (hsz:vs.length + ws.length≤sizeLine):wpAny (model prog w) A (binaryOp .Add (.ref t) (.ref b)) Q E s:=by
 obtain ⟨⟨cls,dd,data,sl⟩,ho,hc,n,hd⟩:=id ht
 obtain ⟨⟨cls2,dd2,data2,sl2⟩,ho2,hc2,n2,hd2⟩:=id hb
 simp only at hc hd hc2 hd2
 subst hc hd hc2 hd2
 have e:vs.toArray++ws.toArray=(vs++ws).toArray:=by simp
 by_cases hw:ws=[]
 · exact concat_meets ⟨_,ho,rfl⟩ ⟨_,ho2,rfl⟩ noFill_tuple_add seq_tuple_add PySem.F.slot_tuple_add PySem.F.entry_tuple_add (PySem.F.args_tuple_add_2 _ _)
     (tuple_addW1 t b vs.toArray ws.toArray n n2 dd dd2 sl sl2 (by simpa using hv) (by simp [hw])) ⟨ho,ho2,h1 hw⟩
 · refine concat_meets ⟨_,ho,rfl⟩ ⟨_,ho2,rfl⟩ noFill_tuple_add seq_tuple_add PySem.F.slot_tuple_add PySem.F.entry_tuple_add (PySem.F.args_tuple_add_2 _ _)
     (tuple_addW2 t b vs.toArray ws.toArray n n2 dd dd2 sl sl2 (by simpa using hv) (by simpa using hw) (by rw [List.size_toArray,List.size_toArray];exact hsz)) ⟨ho,ho2,?_⟩
   rw [e]
   exact h2 hw

def sIx (n d:Nat):Option Int→Nat
 | none=>d
 | some v=>if v < 0 then (v + (n:Int)).toNat else min v.toNat n
theorem sIx_le (n d:Nat) (hd:d≤n) (o:Option Int):sIx n d o≤n:=by
 cases o with
 | none=>exact hd
 | some v =>
   show (if v < 0 then (v + (n:Int)).toNat else min v.toNat n)≤n
   by_cases hv:v < 0
   · rw [if_pos hv];omega
   · rw [if_neg hv];exact Nat.min_le_right _ _
theorem clip_eq (v:Int) (n d:Nat):(if v < 0 then max (v + (n:Int)) 0 else min v (n:Int))=((sIx n d (some v):Nat):Int):=by
 show (if v < 0 then max (v + (n:Int)) 0 else min v (n:Int))=(((if v < 0 then (v + (n:Int)).toNat else min v.toNat n):Nat):Int)
 by_cases hv:v < 0
 · simp only [if_pos hv];omega
 · simp only [if_neg hv];omega
theorem adjust_gen (lo hi:Option Int) (n:Nat):Builtin.Slice.sliceAdjust lo hi 1 (n:Int)=(((sIx n 0 lo:Nat):Int),((sIx n n hi:Nat):Int)):=by
 have h1:¬ ((1:Int) < 0):=by omega
 unfold Builtin.Slice.sliceAdjust
 simp only [h1,if_false]
 refine Prod.ext ?_ ?_
 · cases lo with
   | none=>rfl
   | some v=>exact clip_eq v n 0
 · cases hi with
   | none=>rfl
   | some v=>exact clip_eq v n n
theorem places_gen (i j:Nat):Builtin.Slice.slicePlaces (i:Int) (j:Int) 1=j - i:=by
 unfold Builtin.Slice.slicePlaces
 have h1:(1:Int) > 0:=by omega
 simp only [h1,if_true,Int.ediv_one]
 split <;> omega
theorem slicePart_ {v:Value}{o:Option Int}{Q:Option Int→Shared→Prop} (p:IsPart v o) (h:Q o s):wpAny (model prog w) A (Builtin.Slice.slicePartIndex v) Q E s:=by
 cases p with
 | none=>exact slicePart_none h
 | int i t=>exact slicePart_int h
theorem sliceApplied_gen {sl:Addr}{vl vu:Value}{lo hi:Option Int}{n:Nat}{Q:Int×Int×Nat→Shared→Prop} (hs:s.heap.IsSliceOf sl vl vu .none) (pl:IsPart vl lo) (pu:IsPart vu hi)
   (h:Q (((sIx n 0 lo:Nat):Int),1,sIx n n hi - sIx n 0 lo) s):wpAny (model prog w) A (Builtin.Slice.sliceApplied (.ref sl) (pure (n:Int))) Q E s:=by
 obtain ⟨os,hos,hcs,hds⟩:=id hs
 unfold Builtin.Slice.sliceApplied Builtin.Slice.sliceFields
 refine wpAny_bind (wpAny_bind (wpAny_field hos hds (x:=vl) rfl (wpAny_bind (wpAny_field hos hds (x:=vu) rfl (wpAny_bind (wpAny_field hos hds (x:=.none) rfl (wpAny_pure ?_)))))))
 refine wpAny_bind (slicePart_none ?_)
 show wpAny _ _ (if ((1:Int) == 0)=true then _ else _) _ _ s
 rw [if_neg (by decide)]
 refine wpAny_bind (slicePart_ pl (wpAny_bind (slicePart_ pu (wpAny_bind (wpAny_pure ?_)))))
 show wpAny _ _ (match Builtin.Slice.sliceAdjust lo hi 1 (n:Int) with | (lo,hi)=>pure (lo,(1:Int),Builtin.Slice.slicePlaces lo hi 1)) _ _ s
 rw [adjust_gen lo hi n]
 show wpAny _ _ (pure (((sIx n 0 lo:Nat):Int),(1:Int),Builtin.Slice.slicePlaces ((sIx n 0 lo:Nat):Int) ((sIx n n hi:Nat):Int) 1)) _ _ s
 rw [places_gen]
 exact wpAny_pure h
theorem pick_gen (xs:Array Value) (i k:Nat):((List.range k).filterMap fun (m:Nat)=>xs[((i:Int) + (m:Int) * 1).toNat]?).toArray=((xs.toList.drop i).take k).toArray:=by
 have e:(fun (m:Nat)=>xs[((i:Int) + (m:Int) * 1).toNat]?)=fun m=>xs[i + m]?:=by
   funext m
   have:((i:Int) + (m:Int) * 1).toNat=i + m:=by omega
   rw [this]
 rw [e]
 have:=pick_run xs i k
 rw [List.filterMap_map] at this
 have e2:((fun x=>xs[x]?) ∘ fun x=>i + x)=fun m=>xs[i + m]?:=rfl
 rw [e2] at this
 rw [this]

theorem getItem_tuple_cut {t sl:Addr}{items:Array Value}{vl vu:Value}{lo hi:Option Int}{Q:Value→Shared→Prop} (ht:IsTup s.heap t items) (hs:s.heap.IsSliceOf sl vl vu .none) (pl:IsPart vl lo) (pu:IsPart vu hi)
   (hw:¬ (sIx items.size 0 lo=0∧sIx items.size items.size hi=items.size))
   (h:Q (.ref s.heap.objs.size) { s with heap:=s.heap.push { cls:=.type "tuple",data:=.seq ((items.toList.drop (sIx items.size 0 lo)).take (sIx items.size items.size hi - sIx items.size 0 lo)).toArray } })
   (hsz:items.size≤sizeLine):wpAny (model prog w) A (getItem (.ref t) (.ref sl)) Q E s:=by
 have htake:sizeOk (.seq ((items.toList.drop (sIx items.size 0 lo)).take (sIx items.size items.size hi - sIx items.size 0 lo)).toArray):=by
   show ((items.toList.drop (sIx items.size 0 lo)).take (sIx items.size items.size hi - sIx items.size 0 lo)).toArray.size≤sizeLine
   rw [List.size_toArray,List.length_take,List.length_drop,Array.length_toList]
   omega
 have hj:sIx items.size items.size hi≤items.size:=sIx_le _ _ (Nat.le_refl _) hi
 obtain ⟨os,hos,hcs,hds⟩:=id hs
 have hTs:s.TypeIs (.ref sl) "slice":=⟨os,hos,hcs⟩
 unfold getItem
 try with_reducible refine wpAny_holding ?_
 first | refine wpAny_bind (wpAny_pure ?_) | skip
 refine wpAny_bind (wpAny_sequenceKey ht.typeIs (by decide) ?_)
 refine wpAny_bind (wpAny_callSpecial?_slot (name:=Str.ofString "__getitem__") ht.typeIs PyProof.Rows.slot_tuple_getitem
   (wpAny_call_entry PyProof.Rows.slot_tuple_getitem ht.typeIs entry_tuple_getitem ?_ (args_tuple_getitem _ _)))
 show wpAny _ _ (Builtin.Tuple.tupleItemsOf (.ref t) >>= _) _ _ s
 refine wpAny_bind (tupleItemsOf_ ht ?_)
 refine wpAny_bind (wpAny_typeOf hTs ?_)
 rw [if_pos (by decide)]
 refine wpAny_bind (sliceApplied_gen hs pl pu ?_)
 have hno:¬ ((((sIx items.size 0 lo:Nat):Int) == 0 && (1:Int) == 1 && (sIx items.size items.size hi - sIx items.size 0 lo) == items.size)=true):=by
   intro q
   rw [Bool.and_eq_true,Bool.and_eq_true] at q
   have q1:((sIx items.size 0 lo:Nat):Int)=0:=eq_of_beq q.1.1
   have q2:sIx items.size items.size hi - sIx items.size 0 lo=items.size:=eq_of_beq q.2
   exact hw ⟨by omega,by omega⟩
 show wpAny _ _ (if (((sIx items.size 0 lo:Nat):Int) == 0 && (1:Int) == 1 && (sIx items.size items.size hi - sIx items.size 0 lo) == items.size)=true then _ else _) _ _ s
 rw [if_neg hno,pick_gen]
 first
   | exact wpAny_bind (m:=Builtin.Tuple.tupleExact _) (wpAny_newObj_type (wpAny_pure ⟨_,rfl,wpAny_pure h⟩) htake)
   | exact wpAny_bind (m:=Builtin.Tuple.tupleExact _) (wpAny_newObj_type (wpAny_bind (wpAny_pure (wpAny_pure ⟨_,rfl,wpAny_pure h⟩))) htake)
   | exact wpAny_bind (wpAny_bind (m:=Builtin.Tuple.tupleExact _) (wpAny_newObj_type (wpAny_pure (wpAny_pure ⟨_,rfl,wpAny_pure h⟩)) htake))
   | exact wpAny_bind (wpAny_bind (m:=Builtin.Tuple.tupleExact _) (wpAny_newObj_type (wpAny_pure ⟨_,rfl,wpAny_pure h⟩) htake))
end
end HT

namespace L2
open PySem PySem.Spec PyProof.Rows

abbrev TO:=St→Hp→(Option Int→Hp→Prop)→Prop
def PO (X:Cx) (e:Option Expr) (t:TO):Prop :=
 ∀(pins:List (Addr×Obj)) (s:Shared) (σ:St) (H:Hp) (Q:Option Int→Hp→Prop),Inv X pins σ H s→t σ H Q →
   wpAny (model X.prog X.w) X.A (evalPart e X.env) (fun u s'=>∃o H',Inv X pins σ H' s'∧IsPart u o∧Q o H') X.xe s
def tNoPart:TO:=fun _ H Q=>Q none H
def tPart (t:TE):TO:=fun σ H Q=>t σ H fun x H1=>∃i,x=.int i∧Q (some i) H1

section
variable {X:Cx}{e:Expr}{te:TE}{lo hi:Option Expr}{tl th:TO}{pos p2:Pos}

theorem po_none:PO X none tNoPart:=by
 intro pins s σ H Q I h
 rw [evalPart_none]
 exact wpAny_pure ⟨none,H,I,.none,h⟩
theorem po_some (h:PE X e te):PO X (some e) (tPart te):=by
 intro pins s σ H Q I hw
 rw [evalPart_some]
 refine thn (h pins s σ H _ I hw) fun u s1 ⟨x,H1,I1,r1,q1⟩=>?_
 obtain ⟨i,rfl,q⟩:=q1
 obtain ⟨t,rfl⟩:=r1
 exact ⟨some i,H1,I1,.int i t,q⟩

def SlR (X:Cx) (r:V→Option Int→Option Int→Hp→VK→Prop):Prop :=
 ∀(pins:List (Addr×Obj)) (s:Shared) (σ:St) (H:Hp) (x:V) (v vl vu:Value) (lo hi:Option Int) (sl:Addr) (Q:VK),Inv X pins σ H s→RelV x v→s.heap.IsSliceOf sl vl vu .none→IsPart vl lo→IsPart vu hi→r x lo hi H Q →
   ∃T id,typeLookup (.type T) "__getitem__"=pure (some (.builtin id))∧s.TypeIs v T∧wpAny (model X.prog X.w) X.A (getItem v (.ref sl)) (EP X pins σ Q) X.xe s
theorem SlR.or {r r':V→Option Int→Option Int→Hp→VK→Prop} (h:SlR X r) (h':SlR X r'):SlR X (fun x lo hi H Q=>r x lo hi H Q∨r' x lo hi H Q):=by
 intro pins s σ H x v vl vu lo hi sl Q I rx hs pl pu q
 rcases q with q | q
 · exact h pins s σ H x v vl vu lo hi sl Q I rx hs pl pu q
 · exact h' pins s σ H x v vl vu lo hi sl Q I rx hs pl pu q
def tSl (r:V→Option Int→Option Int→Hp→VK→Prop) (te:TE) (tl th:TO):TE:=fun σ H Q=>te σ H fun x H1=>tl σ H1 fun l H2=>th σ H2 fun u H3=>r x l u H3 Q
theorem pe_slice {r:V→Option Int→Option Int→Hp→VK→Prop} (hr:SlR X r) (he:PE X e te) (hl:PO X lo tl) (hu:PO X hi th):PE X (.Subscript e (.Slice lo hi none p2) pos) (tSl r te tl th):=by
 intro pins s σ H Q I h
 refine Subscript_ (thn (he pins s σ H _ I h) fun v s1 ⟨x,H1,I1,r1,q1⟩=>?_)
 refine wpAny_Slice (thn (hl pins s1 σ H1 _ I1 q1) fun vl s2 ⟨l,H2,I2,pl,q2⟩=>thn (hu pins s2 σ H2 _ I2 q2) fun vu s3 ⟨u,H3,I3,pu,q3⟩=>?_)
 rw [evalPart_none]
 refine wpAny_pure ?_
 have I4:Inv X pins σ H3 { s3 with heap:=s3.heap.push { cls:=.type "slice",data:=.fields #[vl,vu,.none] } }:=I3.kept (t':=s3.toks) fun b ob q=>Heap.get?_push_of_some _ q
 obtain ⟨T,id,hT,ht,hg⟩:=hr pins { s3 with heap:=s3.heap.push { cls:=.type "slice",data:=.fields #[vl,vu,.none] } } σ H3 x v vl vu l u s3.heap.objs.size Q I4 r1 (Heap.IsSliceOf.new ..) pl pu q3
 show wpAny (model X.prog X.w) X.A (subscriptTail e (.Slice lo hi none p2) v (.ref s3.heap.objs.size)) (EP X pins σ Q) X.xe { s3 with heap:=s3.heap.push { cls:=.type "slice",data:=.fields #[vl,vu,.none] } }
 exact tail_any (ops:=[.ref s3.heap.objs.size,v]) ht hT hg (by with_unfolding_all rfl)

def cutV (xs:List V) (lo hi:Option Int):List V:=(xs.drop (HT.sIx xs.length 0 lo)).take (HT.sIx xs.length xs.length hi - HT.sIx xs.length 0 lo)
theorem cutV_length (xs:List V) (lo hi:Option Int):(cutV xs lo hi).length≤xs.length:=by
 unfold cutV
 rw [List.length_take,List.length_drop]
 omega
def rSlT (K:PySem.W.Frag):V→Option Int→Option Int→Hp→VK→Prop:=fun x lo hi H Q=>∃a xs,x=.ref a∧SqT K H a xs ∧
 ¬ (HT.sIx xs.length 0 lo=0∧HT.sIx xs.length xs.length hi=xs.length)∧∀p,H p=none→Q (.ref p) (upd H p (.tup (cutV xs lo hi)))
theorem sl_tup:SlR X (rSlT X.K):=by
 intro pins s σ H x v vl vu lo hi sl Q I rx hs pl pu h
 obtain ⟨a,xs,rfl,hx,hw,q⟩:=h
 cases rx
 obtain ⟨its,r,ht,hz⟩:=I.tuple hx
 have hlen:its.toArray.size=xs.length:=by rw [List.size_toArray];exact r.length.symm
 refine ⟨"tuple",_,PyProof.Rows.slot_tuple_getitem.lookup,ht.typeIs,?_⟩
 refine HT.getItem_tuple_cut ht hs pl pu (by rw [hlen];exact hw) ?_ (by rw [hlen];exact hz)
 rw [hlen]
 refine ⟨.ref s.heap.objs.size,_,I.laid (t':=s.toks) (o:=.tup (cutV xs lo hi)) (fun b ob q=>Heap.get?_push_of_some _ q) (Nat.le_refl _) ?_,rfl,q _ (I.hok.fresh (Nat.le_refl _))⟩
 exact ⟨Nat.le_trans (cutV_length xs lo hi) hz,_,(r.drop (HT.sIx xs.length 0 lo)).take (HT.sIx xs.length xs.length hi - HT.sIx xs.length 0 lo),IsTup.new _ _⟩

def rCatT (K:PySem.W.Frag):R2:=fun x y H Q=>∃a b xs ys,x=.ref a∧y=.ref b∧SqT K H a xs∧SqT K H b ys∧xs≠[]∧xs.length + ys.length≤sizeLine ∧
 (ys=[]→Q (.ref a) H)∧(ys≠[]→∀p,H p=none→Q (.ref p) (upd H p (.tup (xs++ys))))
theorem Vals.nil_iff {xs:List V}{us:List Value} (r:Vals xs us):us=[] ↔ xs=[]:=by
 cases r with
 | nil=>simp
 | cons _ _=>simp
theorem op_catT:OpR X (binaryOp .Add) (rCatT X.K):=by
 intro pins s σ H x y v u Q I rx ry h
 obtain ⟨a,b,xs,ys,rfl,rfl,ha,hb,hx,hz,q1,q2⟩:=h
 cases rx
 cases ry
 obtain ⟨its,r1,p1,_⟩:=I.tuple ha
 obtain ⟨its2,r2,p2,_⟩:=I.tuple hb
 refine HT.cat_tup p1 p2 (fun z=>hx (r1.nil_iff.mp z)) (fun z=>⟨.ref a,H,I,rfl,q1 (r2.nil_iff.mp z)⟩) (fun z=>?_) (by rw [← r1.length,← r2.length];exact hz)
 refine ⟨.ref s.heap.objs.size,_,I.laid (t':=s.toks) (o:=.tup (xs++ys)) (fun b ob q=>Heap.get?_push_of_some _ q) (Nat.le_refl _) ?_,rfl,q2 (fun w=>z (r2.nil_iff.mpr w)) _ (I.hok.fresh (Nat.le_refl _))⟩
 exact ⟨by rw [List.length_append];exact hz,_,r1.append r2,IsTup.new _ _⟩
end
end L2

namespace L2
open PySem PySem.Spec PyProof.Rows

def ixN (n:Nat) (i:Int):Option Nat:=if 0≤i then (if i < n then some i.toNat else none) else if -(n:Int)≤i then some (i + n).toNat else none
def atI {α:Type} (xs:List α) (i:Int):Option α:=(ixN xs.length i).bind fun j=>xs[j]?
theorem ixN_seq {n:Nat}{i:Int}{j:Nat} (h:ixN n i=some j):seqIndex? i n=some j∧j < n∧-(n:Int)≤i∧i < n:=by
 unfold ixN at h
 by_cases h0:0≤i
 · rw [if_pos h0] at h
   by_cases h1:i < n
   · rw [if_pos h1] at h
     have e:i.toNat=j:=Option.some.inj h
     exact ⟨by rw [seqIndex_of h0 h1,e],by omega,by omega,h1⟩
   · rw [if_neg h1] at h;cases h
 · rw [if_neg h0] at h
   by_cases h1:-(n:Int)≤i
   · rw [if_pos h1] at h
     have e:(i + n).toNat=j:=Option.some.inj h
     exact ⟨by rw [seqIndex_neg (by omega) h1,e],by omega,h1,by omega⟩
   · rw [if_neg h1] at h;cases h
theorem atI_get {α:Type}{xs:List α}{i:Int}{v:α} (h:atI xs i=some v):∃j,seqIndex? i xs.length=some j∧xs[j]? = some v∧j < xs.length∧-(xs.length:Int)≤i∧i < xs.length:=by
 unfold atI at h
 cases e:ixN xs.length i with
 | none=>rw [e] at h;cases h
 | some j =>
   rw [e] at h
   obtain ⟨h1,h2,h3,h4⟩:=ixN_seq e
   exact ⟨j,h1,h,h2,h3,h4⟩
theorem atI_nat {α:Type}{xs:List α}{j:Nat}{v:α} (h:xs[j]? = some v):atI xs (j:Int)=some v:=by
 have hj:j < xs.length:=(List.getElem?_eq_some_iff.mp h).1
 have e:ixN xs.length (j:Int)=some j:=by
   unfold ixN
   rw [if_pos (by omega),if_pos (by omega)];simp
 unfold atI;rw [e];exact h
def PlainIx (b:Expr):Prop:=∀o i,subscripted b false o i=operate [o,i] (getItem o i)
def IxR (X:Cx) (r:R2):Prop :=
 ∀(value slice:Expr) (pins:List (Addr×Obj)) (s:Shared) (σ:St) (H:Hp) (x y:V) (v u:Value) (Q:VK),Inv X pins σ H s→RelV x v→RelV y u→r x y H Q →
   subscripted slice false v u=operate [v,u] (getItem v u)→wpAny (model X.prog X.w) X.A (subscriptTail value slice v u) (EP X pins σ Q) X.xe s
def MtR (X:Cx) (id:String) (r:V→List V→Hp→VK→Prop):Prop :=
 ∀(pins:List (Addr×Obj)) (s:Shared) (σ:St) (H:Hp) (x:V) (xs:List V) (v:Value) (us:List Value) (Q:VK),Inv X pins σ H s→RelV x v→Vals xs us→r x xs H Q →
   wpAny (model X.prog X.w) X.A (call (.builtin id) (v::us)) (EP X pins σ Q) X.xe s
section
variable {X:Cx}{a b:Expr}{ta tb:TE}{pos:Pos}
theorem IxR.or {r r':R2} (h:IxR X r) (h':IxR X r'):IxR X (fun x y H Q=>r x y H Q∨r' x y H Q):=by
 intro value slice pins s σ H x y v u Q I rx ry q hs
 rcases q with q | q
 · exact h value slice pins s σ H x y v u Q I rx ry q hs
 · exact h' value slice pins s σ H x y v u Q I rx ry q hs
theorem pe_ix {r:R2} (hr:IxR X r) (ha:PE X a ta) (hb:PE X b tb) (hs:PlainIx b):PE X (.Subscript a b pos) (tOp r ta tb):=by
 intro pins s σ H Q I h
 exact Subscript_ (binT ha hb I h fun v u s2 x y H2 I2 rx ry q=>hr a b pins s2 σ H2 x y v u Q I2 rx ry q (hs _ _))

def rIxL (K:PySem.W.Frag):R2:=fun x y H Q=>∃p xs i v,x=.ref p∧y=.int i∧SqL K H p xs∧atI xs i=some v∧Q v H
def rIxT (K:PySem.W.Frag):R2:=fun x y H Q=>∃p xs i v,x=.ref p∧y=.int i∧SqT K H p xs∧atI xs i=some v∧Q v H
def rIxS:R2:=fun x y H Q=>∃z i c,x=.str z∧y=.int i∧z.length≤sizeLine∧atI z.cps.toList i=some c∧Q (.str ⟨#[c]⟩) H
theorem ix_list:IxR X (rIxL X.K):=by
 intro value slice pins s σ H x y v u Q I rx ry h hs
 obtain ⟨p,xs,i,z,rfl,rfl,hq,he,q⟩:=h
 cases rx
 obtain ⟨t,rfl⟩:=ry
 obtain ⟨its,r,pl,hz⟩:=I.list hq
 obtain ⟨j,h1,h2,h3,h4,h5⟩:=atI_get he
 obtain ⟨w,ew,rw'⟩:=r.get h2
 have hl:=r.length
 have hn:=line63
 have fin:EP X pins σ Q w s:=⟨z,H,I,rw',q⟩
 by_cases h0:0≤i
 · have hj:i.toNat=j:=by
     rw [seqIndex_of h0 h5] at h1
     exact Option.some.inj h1
   exact item_listR pl.isList h0 (by omega) (by rw [hj];simpa using ew) fin hs
 · have hj:(i + (its.toArray.size:Int)).toNat=j:=by
     rw [seqIndex_neg (by omega) h4] at h1
     rw [List.size_toArray,← hl]
     exact Option.some.inj h1
   exact subscriptTail_builtinR (x:=w) pl.isList.typeIs slot_list_getitem.lookup
     (wpAny_getItem_list_neg (Q:=fun r s'=>r=w∧EP X pins σ Q r s') pl.isList (by omega) (by rw [List.size_toArray] <;> omega) (by omega) (by rw [hj];simpa using ew) ⟨rfl,fin⟩) hs
theorem ix_tup:IxR X (rIxT X.K):=by
 intro value slice pins s σ H x y v u Q I rx ry h hs
 obtain ⟨p,xs,i,z,rfl,rfl,hq,he,q⟩:=h
 cases rx
 obtain ⟨t,rfl⟩:=ry
 obtain ⟨its,r,pl,hz⟩:=I.tuple hq
 obtain ⟨j,h1,h2,h3,h4,h5⟩:=atI_get he
 obtain ⟨w,ew,rw'⟩:=r.get h2
 have hl:=r.length
 have hn:=line63
 have fin:EP X pins σ Q w s:=⟨z,H,I,rw',q⟩
 exact subscriptTail_builtinR (x:=w) pl.typeIs slot_tuple_getitem.lookup
   (getItem_tuple (j:=j) (Q:=fun r s'=>r=w∧EP X pins σ Q r s') pl (by omega) (by omega) (by rw [List.size_toArray,← hl];exact h1) (by simpa using ew) ⟨rfl,fin⟩) hs
theorem ix_str:IxR X rIxS:=by
 intro value slice pins s σ H x y v u Q I rx ry h hs
 obtain ⟨z,i,c,rfl,rfl,hz,he,q⟩:=h
 obtain ⟨t,rfl⟩:=rx
 obtain ⟨t',rfl⟩:=ry
 obtain ⟨j,h1,h2,h3,h4,h5⟩:=atI_get he
 have hl:z.cps.toList.length=z.length:=by simp [Str.length]
 rw [hl] at h1 h4 h5
 have hn:=line63
 exact tail_any (typeIs_str s z t) slot_str_getitem.lookup (getItem_str (c:=c) (by
   have e1:decide (i < -(2 ^ 63:Int))=false:=decide_eq_false (by omega)
   have e2:decide (i ≥ 2 ^ 63)=false:=decide_eq_false (by omega)
   rw [e1,e2,Bool.or_false]) (by rw [h1];simpa using h2) ⟨.str ⟨#[c]⟩,H,I.tok _,⟨_,rfl⟩,q⟩) hs
def rIx (K:PySem.W.Frag):R2:=fun x y H Q=>rIxL K x y H Q∨rIxT K x y H Q∨rIxS x y H Q
theorem ix_seq:IxR X (rIx X.K):=ix_list.or (ix_tup.or ix_str)

theorem mapSeq_set (its:List Value) (n j:Nat) (u:Value):Obj.mapSeq (·.setIfInBounds j u) { cls:=.type "list",data:=.seq its.toArray n }={ cls:=.type "list",data:=.seq (its.set j u).toArray n }:=by
 simp [Obj.mapSeq]
theorem Inv.lst {pins:List (Addr×Obj)}{σ:St}{H:Hp}{s:Shared}{p:Addr}{xs:List V} (I:Inv X pins σ H s) (h:H p=some (.lst xs)) :
   ∃(its:List Value) (n:Nat),Vals xs its∧s.heap.get? p=some { cls:=.type "list",data:=.seq its.toArray n }∧xs.length≤sizeLine:=by
 obtain ⟨z,its,n,r,e⟩:=I.hok p _ h
 exact ⟨its,n,r,e,z⟩
theorem Inv.lstUpd {pins:List (Addr×Obj)}{σ:St}{H:Hp}{s:Shared}{p:Addr}{xs ys:List V}{its its':List Value}{n n':Nat}{f:Obj→Obj} (I:Inv X pins σ H s) (h:H p=some (.lst xs))
   (ho:s.heap.get? p=some { cls:=.type "list",data:=.seq its.toArray n }) (hf:f { cls:=.type "list",data:=.seq its.toArray n }={ cls:=.type "list",data:=.seq its'.toArray n' }) (r:Vals ys its') (hz:ys.length≤sizeLine) (t:Nat) :
   Inv X pins σ (upd H p (.lst ys)) { s with heap:=s.heap.update p f,toks:=t }:=by
 have e:(s.heap.update p f).get? p=some { cls:=.type "list",data:=.seq its'.toArray n' }:=by
   rw [Heap.get?_update_self f ho (by rw [hf] <;> rfl),hf]
 refine I.write (x:=p) (e:=p) (by rw [h];trivial) (.inl rfl) (fun b u hb q=>(Heap.get?_update_other _ _ (Ne.symm hb)).trans q) ⟨_,e⟩ ?_
 exact ⟨hz,its',n',r,e⟩
def rSetL:V→V→V→Hp→(Hp→Prop)→Prop:=fun o i v H Q=>∃p xs k j,o=.ref p∧i=.int k∧H p=some (.lst xs)∧ixN xs.length k=some j∧Q (upd H p (.lst (xs.set j v)))
theorem set_list:PSet X rSetL:=by
 intro pins s σ H o i v ov iv u Q I ro ri rv h
 obtain ⟨p,xs,k,j,rfl,rfl,hp,hj,q⟩:=h
 cases ro
 obtain ⟨t,rfl⟩:=ri
 obtain ⟨its,n,r,ho,hz⟩:=I.lst hp
 obtain ⟨h1,h2,h3,h4⟩:=ixN_seq hj
 have hl:=r.length
 have hn:=line63
 have I':Inv X pins σ (upd H p (.lst (xs.set j v))) { s with heap:=s.heap.update p (Obj.mapSeq (·.setIfInBounds j u)) } :=
   I.lstUpd hp ho (mapSeq_set its n j u) (r.set rv j) (by rw [List.length_set];exact hz) s.toks
 by_cases h0:0≤k
 · have hk:k.toNat=j:=by
     rw [seqIndex_of h0 h4] at h1
     exact Option.some.inj h1
   exact PySem.W.ki_setAt ho h0 (by omega) (by rw [List.size_toArray,← hl];exact h4) (by rw [hk];exact ⟨_,I',q⟩)
 · have hk:(k + (its.toArray.size:Int)).toNat=j:=by
     rw [seqIndex_neg (by omega) h3] at h1
     rw [List.size_toArray,← hl]
     exact Option.some.inj h1
   exact PySem.W.ki_setBack ho (by omega) (by rw [List.size_toArray,← hl];exact h3) (by omega) (by rw [hk];exact ⟨_,I',q⟩)

theorem slice_bounds (lo hi:Option Int) (n:Nat):(sliceBounds lo hi none n).1=((HT.sIx n 0 lo:Nat):Int)∧(sliceBounds lo hi none n).2.1=((HT.sIx n n hi:Nat):Int)∧(sliceBounds lo hi none n).2.2=1:=by
 refine ⟨?_,?_,rfl⟩
 · cases lo with
   | none=>simp [sliceBounds,HT.sIx]
   | some i =>
     simp only [sliceBounds,HT.sIx,Option.getD_none,show (1:Int) > 0 by decide,if_true]
     by_cases h:i < 0
     · simp only [h,if_true] <;> omega
     · simp only [h,if_false] <;> omega
 · cases hi with
   | none=>simp [sliceBounds,HT.sIx]
   | some i =>
     simp only [sliceBounds,HT.sIx,Option.getD_none,show (1:Int) > 0 by decide,if_true]
     by_cases h:i < 0
     · simp only [h,if_true] <;> omega
     · simp only [h,if_false] <;> omega
theorem slicePick_cut (its:List Value) (lo hi:Option Int):slicePick its.toArray lo hi none=((its.drop (HT.sIx its.length 0 lo)).take (HT.sIx its.length its.length hi - HT.sIx its.length 0 lo)).toArray:=by
 obtain ⟨h1,h2,h3⟩:=slice_bounds lo hi its.toArray.size
 unfold slicePick
 rw [h1,h2,h3]
 simp only [sliceRange_one,pick_run,List.size_toArray] <;> rfl
def rSlL (K:PySem.W.Frag):V→Option Int→Option Int→Hp→VK→Prop:=fun x lo hi H Q=>∃a xs,x=.ref a∧SqL K H a xs∧∀p,H p=none→Q (.ref p) (upd H p (.lst (cutV xs lo hi)))
theorem sl_list:SlR X (rSlL X.K):=by
 intro pins s σ H x v vl vu lo hi sl Q I rx hs pl pu h
 obtain ⟨a,xs,rfl,hx,q⟩:=h
 cases rx
 obtain ⟨its,r,ht,hz⟩:=I.list hx
 have hlen:=r.length
 refine ⟨"list",_,slot_list_getitem.lookup,ht.isList.typeIs,?_⟩
 refine wpAny_getItem_list_slice ht.isList hs pl pu .none (by simp) ?_ (by rw [List.size_toArray] <;> omega)
 rw [slicePick_cut,← hlen]
 refine ⟨.ref s.heap.objs.size,_,I.laid (t':=s.toks) (o:=.lst (cutV xs lo hi)) (fun b ob q=>Heap.get?_push_of_some _ q) (Nat.le_refl _) ?_,rfl,q _ (I.hok.fresh (Nat.le_refl _))⟩
 exact ⟨Nat.le_trans (cutV_length xs lo hi) hz,_,0,(r.drop (HT.sIx xs.length 0 lo)).take (HT.sIx xs.length xs.length hi - HT.sIx xs.length 0 lo),Heap.get?_push_size _ rfl⟩

def flatV:V→Bool
 | .non=>true
 | .bl _=>true
 | .int _=>true
 | .str _=>true
 | _=>false
def eqV:V→V→Bool
 | .non,.non=>true
 | .bl a,.bl b=>a == b
 | .bl a,.int b=>(if a then 1 else 0) == b
 | .int a,.bl b=>a == (if b then 1 else 0)
 | .int a,.int b=>a == b
 | .str a,.str b=>a == b
 | _,_=>false
theorem eqAt_V {A:Around}{s:Shared}{y x:V}{u v:Value} (ry:RelV y u) (rx:RelV x v) (fy:flatV y=true) (fx:flatV x=true):SeqAt.EqAt A s u v (eqV y x):=by
 cases y with
 | non =>
   cases ry
   cases x with
   | non=>cases rx;exact SeqAt.EqAt.same _
   | bl b=>cases rx;exact SeqAt.EqAt.none_bool b
   | int b=>obtain ⟨t,rfl⟩:=rx;exact SeqAt.EqAt.none_int b t
   | str b=>obtain ⟨t,rfl⟩:=rx;exact SeqAt.EqAt.none_str b t
   | _=>exact absurd (show false=true from fx) Bool.false_ne_true
 | bl a =>
   cases ry
   cases x with
   | non=>cases rx;exact SeqAt.EqAt.bool_none a
   | bl b=>cases rx;exact SeqAt.EqAt.bool_bool a b
   | int b=>obtain ⟨t,rfl⟩:=rx;exact SeqAt.EqAt.bool_int a b t
   | str b=>obtain ⟨t,rfl⟩:=rx;exact SeqAt.EqAt.bool_str a b t
   | _=>exact absurd (show false=true from fx) Bool.false_ne_true
 | int a =>
   obtain ⟨t',rfl⟩:=ry
   cases x with
   | non=>cases rx;exact SeqAt.EqAt.int_none a t'
   | bl b=>cases rx;exact SeqAt.EqAt.int_bool a t' b
   | int b=>obtain ⟨t,rfl⟩:=rx;exact SeqAt.EqAt.int_int a t' b t
   | str b=>obtain ⟨t,rfl⟩:=rx;exact SeqAt.EqAt.int_str a t' b t
   | _=>exact absurd (show false=true from fx) Bool.false_ne_true
 | str a =>
   obtain ⟨t',rfl⟩:=ry
   cases x with
   | non=>cases rx;exact SeqAt.EqAt.str_none a t'
   | bl b=>cases rx;exact SeqAt.EqAt.str_bool a t' b
   | int b=>obtain ⟨t,rfl⟩:=rx;exact SeqAt.EqAt.str_int a t' b t
   | str b=>obtain ⟨t,rfl⟩:=rx;exact SeqAt.EqAt.str_str a t' b t
   | _=>exact absurd (show false=true from fx) Bool.false_ne_true
 | _=>exact absurd (show false=true from fy) Bool.false_ne_true
theorem call_len_seq:CallR X (.builtin "len") (fun xs H Q=>∃p ys,xs=[.ref p]∧(SqL X.K H p ys∨SqT X.K H p ys)∧Q (.int ys.length) H):=by
 intro pins s σ H xs us Q I r h
 obtain ⟨p,ys,rfl,hq,q⟩:=h
 obtain ⟨u,rfl,rx⟩:=vals1 r
 cases rx
 have hn:=line63
 rcases hq with hq | hq
 · obtain ⟨its,r',pl,hz⟩:=I.list hq
   have hlen:=r'.length
   exact Calls.call_len_list pl.isList (by simp only [List.size_toArray] <;> omega) ⟨.int ys.length,H,I.tok _,⟨s.toks + 1,by rw [List.size_toArray,hlen]⟩,q⟩
 · obtain ⟨its,r',pl,hz⟩:=I.tuple hq
   have hlen:=r'.length
   exact len_tuple pl (by simp only [List.size_toArray] <;> omega) ⟨.int ys.length,H,I.tok _,⟨s.toks + 1,by rw [List.size_toArray,hlen]⟩,q⟩
theorem call_len_str:CallR X (.builtin "len") (fun xs H Q=>∃z,xs=[.str z]∧z.length≤sizeLine∧Q (.int z.length) H):=by
 intro pins s σ H xs us Q I r h
 obtain ⟨z,rfl,hz,q⟩:=h
 obtain ⟨u,rfl,t,rfl⟩:=vals1 r
 have hn:=line63
 exact len_str (by omega) ⟨.int z.length,H,I.tok _,⟨_,rfl⟩,q⟩
theorem CallR.or {f:Value}{r r':List V→Hp→VK→Prop} (h:CallR X f r) (h':CallR X f r'):CallR X f (fun xs H Q=>r xs H Q∨r' xs H Q):=by
 intro pins s σ H xs us Q I rs q
 rcases q with q | q
 · exact h pins s σ H xs us Q I rs q
 · exact h' pins s σ H xs us Q I rs q
theorem call_list_of:CallR X (.type "list") (fun xs H Q=>∃p ys,xs=[.ref p]∧(SqL X.K H p ys∨SqT X.K H p ys)∧∀l,H l=none→Q (.ref l) (upd H l (.lst ys))):=by
 intro pins s σ H xs us Q I r h
 obtain ⟨p,ys,rfl,hq,q⟩:=h
 obtain ⟨u,rfl,rx⟩:=vals1 r
 cases rx
 have fin:∀(its:List Value),Vals ys its→ys.length≤sizeLine→∀(h':Heap) (c':Nat),(∀b o',s.heap.get? b=some o'→h'.get? b=some o') →
     h'.get? s.heap.objs.size=some { cls:=.type "list",dict:=none,data:=.seq its.toArray c',slots:=#[] }→EP X pins σ Q (.ref s.heap.objs.size) { s with heap:=h' }:=fun its r' hz h' c' kp e =>
   ⟨.ref s.heap.objs.size,_,I.laid (t':=s.toks) kp (Nat.le_refl _) (show ObjOk X.prog X.w _ h' _ (.lst ys) from ⟨hz,its,c',r',e⟩),rfl,q _ (I.hok.fresh (Nat.le_refl _))⟩
 rcases hq with hq | hq
 · obtain ⟨its,r',pl,hz⟩:=I.list hq
   have hlen:=r'.length
   obtain ⟨o,ho,hc,n,hd⟩:=pl.isList
   exact call_list_seq p (.inl rfl) ho hc hd (fun h' c' kp e=>fin its r' hz h' c' kp e) (by simp only [List.size_toArray] <;> omega)
 · obtain ⟨its,r',pl,hz⟩:=I.tuple hq
   have hlen:=r'.length
   obtain ⟨o,ho,hc,n,hd⟩:=pl
   exact call_list_seq p (.inr rfl) ho hc hd (fun h' c' kp e=>fin its r' hz h' c' kp e) (by simp only [List.size_toArray] <;> omega)
def tyV (K:PySem.W.Frag) (T:String) (x:V) (H:Hp):Prop:=match x with
 | .str _=>T="str"
 | .int _=>T="int"
 | .ref p=>(T="list"∧∃xs,SqL K H p xs)∨(T="tuple"∧∃o,K.lookup p=some o∧o.cls=.type "tuple"∧o.dict=none) ∨
     (T="dict"∧((∃kvs,H p=some (.dK kvs))∨∃kvs,H p=some (.dT kvs)))∨(T="set"∧∃S n,H p=some (.set S n))
 | _=>False
theorem tyV_is {pins:List (Addr×Obj)}{σ:St}{H:Hp}{s:Shared}{T:String}{x:V}{v:Value} (I:Inv X pins σ H s) (r:RelV x v) (ty:tyV X.K T x H) :
   s.TypeIs v T∧∀a,v=.ref a→∃ob,s.heap.get? a=some ob∧ob.dict=none:=by
 cases x with
 | str z =>
   obtain ⟨t,rfl⟩:=r
   cases (show T="str" from ty)
   exact ⟨typeIs_str s z t,fun _ e=>nomatch e⟩
 | int i =>
   obtain ⟨t,rfl⟩:=r
   cases (show T="int" from ty)
   exact ⟨typeIs_int s i t,fun _ e=>nomatch e⟩
 | ref p =>
   cases r
   rcases ty with ⟨rfl,xs,hq⟩ | ⟨rfl,o,hk,hc,hd⟩ | ⟨rfl,hk⟩ | ⟨rfl,S,n,hk⟩
   · obtain ⟨its,_,pl,_⟩:=I.list hq
     refine ⟨pl.isList.typeIs,fun a e=>?_⟩
     cases e
     obtain ⟨o,n,e,c,hd,_⟩:=pl
     exact ⟨o,e,hd⟩
   · refine ⟨⟨o,I.kIn p o hk,hc⟩,fun a e=>?_⟩
     cases e
     exact ⟨o,I.kIn _ o hk,hd⟩
   · have z:∃o,s.heap.get? p=some o∧o.ExactDict:=by
       rcases hk with ⟨kvs,hk⟩ | ⟨kvs,hk⟩
       · obtain ⟨_,_,_,_,o,_,_,e,ex,_⟩:=I.hok p _ hk
         exact ⟨o,e,ex⟩
       · obtain ⟨_,_,_,_,o,_,_,e,ex,_⟩:=I.hok p _ hk
         exact ⟨o,e,ex⟩
     obtain ⟨o,e,ex⟩:=z
     refine ⟨⟨o,e,ex.1⟩,fun a e2=>?_⟩
     cases e2
     exact ⟨o,e,ex.2.1⟩
   · obtain ⟨o,_,_,_,e,ex,_⟩:=I.hok p _ hk
     refine ⟨⟨o,e,ex.1⟩,fun a e2=>?_⟩
     cases e2
     exact ⟨o,e,ex.2.1⟩
 | _=>exact False.elim ty
def tBM (K:PySem.W.Frag) (T:String) (r:V→List V→Hp→VK→Prop) (to:TE) (t:TA):TE:=fun σ H Q=>to σ H fun x H1=>tyV K T x H1∧t σ H1 fun xs H2=>r x xs H2 Q
variable {o e:Expr}{es:List Expr}{to:TE}{t:TA}{name:Str}{apos cpos:Pos}{T id:String}{r:V→List V→Hp→VK→Prop}
theorem pe_bm (pa:PlainAttrs T) (slot:Slot T name id) (hty:typeOf (.builtin id)=pure (.type "method_descriptor")) (hm:MtR X id r) (ho:PE X o to) (ha:PA X (e::es) t)
   (hbase:attributeBase o name X.env (eval o X.env)=eval o X.env:=by rfl)
   (hfew:((backTo cpos (starEach (e::es) X.env)).all (fun x=>!x.1) && (backToKw cpos (keywordEach [] X.env)).all (fun x=>x.1.isSome)
     && decide ((e::es).length + ([]:List Keyword).length + (if ([]:List Keyword).isEmpty then 0 else 1) < 30))=true:=by rfl)
   (hline:(apos.endLine == cpos.line)=true:=by rfl) (hs:starEach (e::es) X.env=(false,eval e X.env)::starEach es X.env:=by rfl) (hplain:(backTo cpos (starEach es X.env)).any (·.1)=false:=by rfl) :
   PE X (.Call (.Attribute o name apos) (e::es) [] cpos) (tBM X.K T r to t):=by
 intro pins s σ H Q I h
 refine wpAny_Call_method_late hbase hfew hline rfl (thn (ho pins s σ H _ I h) fun v s1 ⟨x,H1,I1,r1,ty,q1⟩=>?_)
 obtain ⟨h1,h2⟩:=tyV_is I1 r1 ty
 refine ⟨T,id,pa,slot,hty,h1,h2,?_⟩
 have hA:=ha cpos pins s1 σ H1 _ I1 q1
 rw [hs] at hA ⊢
 refine Calls.callWith_builtin (by show (false || (backTo cpos (starEach es X.env)).any (·.1))=false;rw [hplain] <;> rfl) (Calls.evalArgs_plain ?_)
 exact thn hA fun us s2 ⟨vs,H2,I2,r2,q2⟩=>hm pins s2 σ H2 x vs v us Q I2 r1 r2 q2
/- xs.append(e),list.index on a module's tuple .. are MtR facts of 06m -/
end
end L2

namespace L2
open PySem PySem.Spec PyProof.Rows

def MtM (X:Cx) (id:String) (r:V→List V→Hp→VK→Prop):Prop :=
 ∀(pins:List (Addr×Obj)) (s:Shared) (σ:St) (H:Hp) (x:V) (xs:List V) (v:Value) (us:List Value) (Q:VK),Inv X pins σ H s→RelV x v→Vals xs us→r x xs H Q →
   wpAny (model X.prog X.w) X.A (call (.builtin id) (v::us)) (EP X pins σ Q) X.xe s

theorem Vals.one:∀{x:V}{us:List Value},Vals [x] us→∃u,us=[u]∧RelV x u
 | _,_,.cons r .nil=>⟨_,rfl,r⟩
theorem Vals.dropLast {xs:List V}{us:List Value} (h:Vals xs us):Vals xs.dropLast us.dropLast:=by
 induction h with
 | nil=>exact .nil
 | cons r t ih =>
   cases t with
   | nil=>exact .nil
   | cons q t'=>exact .cons r ih
theorem Vals.eraseIdx:∀{xs:List V}{us:List Value} (i:Nat),Vals xs us→Vals (xs.eraseIdx i) (us.eraseIdx i)
 | _,_,_,.nil=>.nil
 | _,_,0,.cons _ t=>t
 | _,_,i + 1,.cons r t=>.cons r (Vals.eraseIdx i t)
theorem Vals.rep {xs:List V}{us:List Value} (h:Vals xs us):∀k:Nat,Vals (List.replicate k xs).flatten (List.replicate k us).flatten
 | 0=>.nil
 | k + 1=>by
   rw [List.replicate_succ,List.replicate_succ,List.flatten_cons,List.flatten_cons]
   exact Vals.append h (Vals.rep h k)
theorem len_erase {α:Type}:∀(l:List α) (i:Nat),(l.eraseIdx i).length≤l.length
 | [],_=>Nat.le_refl _
 | _::_,0=>Nat.le_succ _
 | _::r,i + 1=>Nat.succ_le_succ (len_erase r i)
theorem foldl_rep (its:List Value):∀(k:Nat) (acc:List Value),
   List.foldl (fun x1 x2=>x1++x2) acc.toArray (List.replicate k its.toArray)=(acc++(List.replicate k its).flatten).toArray
 | 0,acc=>by simp
 | k + 1,acc=>by
   have e:acc.toArray++its.toArray=(acc++its).toArray:=by simp
   have e2:(acc++its)++(List.replicate k its).flatten=acc++(List.replicate (k + 1) its).flatten:=by
     rw [List.replicate_succ,List.flatten_cons,List.append_assoc]
   rw [← e2,← foldl_rep its k (acc++its),← e,List.replicate_succ,List.foldl_cons]

section
variable {X:Cx}{pins:List (Addr×Obj)}{σ:St}{H:Hp}{s:Shared}{l b:Addr}{xs ys zs:List V}

theorem Inv.lset {its its':List Value}{n:Nat}{f:Array Value→Array Value}{t':Nat} (I:Inv X pins σ H s) (hH:H l=some (.lst xs))
   (e:s.heap.get? l=some { cls:=.type "list",data:=.seq its.toArray n }) (hf:f its.toArray=its'.toArray) (hv:Vals ys its') (hz:ys.length≤sizeLine) :
   Inv X pins σ (upd H l (.lst ys)) { s with heap:=s.heap.update l (Obj.mapSeq f),toks:=t' }:=by
 have q:=PySem.IsL.update e f
 rw [hf] at q
 refine I.write (x:=l) (e:=l) (by rw [hH];exact trivial) (.inl rfl) (fun b' u hb hu=>(Heap.get?_update_other s.heap (Obj.mapSeq f) (Ne.symm hb)).trans hu) ⟨_,q⟩ ?_
 exact ⟨hz,its',_,hv,q⟩
theorem Inv.lnew {its:List Value}{t':Nat} (I:Inv X pins σ H s) (hv:Vals ys its) (hz:ys.length≤sizeLine) :
   Inv X pins σ (upd H s.heap.objs.size (.lst ys)) { s with heap:=s.heap.push { cls:=.type "list",data:=.seq its.toArray },toks:=t' } :=
 I.laid (fun _ _ q=>Heap.get?_push_of_some _ q) (Nat.le_refl _) ⟨hz,its,0,hv,Heap.get?_push_size _ rfl⟩
theorem Inv.fresh (I:Inv X pins σ H s):H s.heap.objs.size=none:=I.hok.fresh (Nat.le_refl _)
theorem Inv.lstM (I:Inv X pins σ H s) (hH:H l=some (.lst xs)):xs.length≤sizeLine∧∃(its:List Value) (n:Nat),Vals xs its∧xs.length=its.length∧s.heap.get? l=some { cls:=.type "list",data:=.seq its.toArray n }:=by
 obtain ⟨z,its,n,r,e⟩:=I.hok l _ hH
 exact ⟨z,its,n,r,r.length,e⟩

theorem notLongL {n:Nat} (h:n≤sizeLine):Builtin.List.listTooLong n=false:=by
 unfold Builtin.List.listTooLong
 exact decide_eq_false (by omega)
end

section
variable {X:Cx}

def rAppend:V→List V→Hp→VK→Prop:=fun x vs H Q=>∃l xs y,x=.ref l∧vs=[y]∧H l=some (.lst xs)∧xs.length < sizeLine∧Q .non (upd H l (.lst (xs++[y])))
theorem mt_append:MtM X "list.append" rAppend:=by
 intro pins s σ H x vs v us Q I rx rv h
 obtain ⟨l,xs,y,rfl,rfl,hH,hz,q⟩:=h
 cases rx
 obtain ⟨u,rfl,ru⟩:=rv.one
 obtain ⟨z,its,n,r,hl,e⟩:=I.lstM hH
 refine call_meets F.slot_list_append ⟨_,e,rfl⟩ F.entry_list_append (F.args_list_append_2 _ _) (PySem.list_append l its.toArray n u (by rw [List.size_toArray];omega)) ⟨e,?_⟩
 refine ⟨.non,_,I.lset (its':=its++[u]) hH e (by simp) (r.append (.cons ru .nil)) ?_,rfl,q⟩
 rw [List.length_append,List.length_singleton]
 omega

def rPopAt:V→List V→Hp→VK→Prop:=fun x vs H Q=>∃l xs i k y,x=.ref l∧vs=[.int i]∧H l=some (.lst xs)∧-(2 ^ 63)≤i∧i < 2 ^ 63∧seqIndex? i xs.length=some k∧xs[k]? = some y∧Q y (upd H l (.lst (xs.eraseIdx k)))
theorem mt_popAt:MtM X "list.pop" rPopAt:=by
 intro pins s σ H x vs v us Q I rx rv h
 obtain ⟨l,xs,i,k,y,rfl,rfl,hH,h1,h2,hk,hy,q⟩:=h
 cases rx
 obtain ⟨u,rfl,ru⟩:=rv.one
 obtain ⟨t,rfl⟩:=ru
 obtain ⟨z,its,n,r,hl,e⟩:=I.lstM hH
 obtain ⟨w,hw,rw'⟩:=r.get hy
 refine call_meets F.slot_list_pop ⟨_,e,rfl⟩ F.entry_list_pop (F.args_list_pop_2 _ _)
   (MeetsSeq.list_pop_at l its.toArray n i t k w (fitsIndex_both h1 h2) (by rw [List.size_toArray,← hl];exact hk) (by rw [← Array.getElem?_toList];exact hw) (by rw [List.size_toArray];omega)) ⟨e,?_⟩
 refine ⟨y,_,I.lset (its':=its.eraseIdx k) hH e ?_ (r.eraseIdx k) ?_,rw',q⟩
 · show its.toArray.eraseIdxIfInBounds k=(its.eraseIdx k).toArray
   rw [List.eraseIdxIfInBounds_toArray]
 · have:=len_erase xs k
   omega

def rRep:R2:=fun x y H Q=>∃l k xs,x=.ref l∧y=.int k∧H l=some (.lst xs)∧-(2 ^ 63)≤k∧k < 2 ^ 63∧xs.length * k.toNat≤sizeLine ∧
 ∀p,H p=none→Q (.ref p) (upd H p (.lst (List.replicate k.toNat xs).flatten))
theorem len_rep {α:Type} (xs:List α) (k:Nat):(List.replicate k xs).flatten.length=k * xs.length:=by
 induction k with
 | zero=>simp
 | succ k ih=>rw [List.replicate_succ,List.flatten_cons,List.length_append,ih,Nat.succ_mul,Nat.add_comm]
theorem op_rep:OpR X (binaryOp .Mult) rRep:=by
 intro pins s σ H x y v u Q I rx ry h
 obtain ⟨l,k,xs,rfl,rfl,hH,h1,h2,hz,q⟩:=h
 cases rx
 obtain ⟨t,rfl⟩:=ry
 obtain ⟨z,its,n,r,hl,e⟩:=I.lstM hH
 have hlen:its.toArray.size * k.toNat≤sizeLine:=by rw [List.size_toArray,← hl];exact hz
 have hcap:¬ its.toArray.size * k.toNat > (2 ^ 63 - 1) / 8:=by
   have:(sizeLine:Nat)≤(2 ^ 63 - 1) / 8:=by decide
   omega
 have hfit:¬ (!Builtin.List.listFitsIndex k)=true:=by
   rw [fitsIndex_both h1 h2]
   exact Bool.false_ne_true
 have hlong:¬ Builtin.List.listTooLong (its.toArray.size * k.toNat)=true:=by
   rw [notLongL hlen]
   exact Bool.false_ne_true
 have hnew:List.foldl (fun x1 x2=>x1++x2) #[] (List.replicate (if its.toArray.isEmpty=true then 0 else k.toNat) its.toArray)=(List.replicate k.toNat its).flatten.toArray:=by
   have f0:∀m:Nat,List.foldl (fun x1 x2=>x1++x2) #[] (List.replicate m its.toArray)=(List.replicate m its).flatten.toArray:=fun m=>by
     have:=foldl_rep its m []
     rw [List.nil_append] at this
     exact this
   rw [f0]
   cases its with
   | nil=>simp
   | cons a r'=>rw [if_neg (by simp)]
 refine wpAny_binaryOp_repeat_ref (T:="list") (U:="int") (by decide) ⟨_,e,rfl⟩ (fun s'=>typeIs_int s' k t) noFill_list_mul F.fills_int_mul F.slot_int_rmul repeat_list F.slot_int_index.lookup
   (call_meets F.slot_int_rmul (typeIs_int s k t) F.entry_int_rmul (F.args_int_rmul_2 _ _) (int___rmul___int_list k t l its.toArray n)
     ⟨e,rfl,⟨_,e,rfl⟩,call_meets F.slot_list_mul ⟨_,e,rfl⟩ F.entry_list_mul (F.args_list_mul_2 _ _) (AutoListH.list___mul___list_int_3 l its.toArray n k t hfit hcap hlong) ⟨e,?_⟩⟩)
 rw [hnew]
 exact ⟨.ref _,_,I.lnew (t':=s.toks) (r.rep k.toNat) (by rw [len_rep,Nat.mul_comm];exact hz),rfl,q _ I.fresh⟩

end

section
variable {prog:Program}{w:World}{A:Around}{E:Value→Shared→Prop}{s:Shared}
theorem splice_eq (its its2:List Value) (a c:Nat):its.toArray.extract 0 a++its2.toArray++its.toArray.extract c its.toArray.size=(its.take a++its2++its.drop c).toArray:=by
 apply Array.toList_inj.mp
 first
   | (simp
      exact List.take_of_length_le (by simp))
   | simp [List.take_of_length_le]
   | simp
end

end L2

namespace Att
open PySem PySem.W PySem.Calls PyProof.Rows

theorem ints_of_wellAll {P:Params}{h:Heap}:∀(ns:List Int) (vs:List Value),WellAll P h vs (ns.map WData.int)→IntsAre vs ns:=by
 intro ns
 induction ns with
 | nil =>
   intro vs w
   rw [List.map_nil] at w
   cases w
   exact .nil
 | cons n ns ih =>
   intro vs w
   rw [List.map_cons] at w
   cases w with
   | cons a b =>
     cases a
     exact .cons _ _ (ih _ b)

theorem script_of {l:OpenLaw}{n:Nat} (hn:l.most=some n) {P:Params}{h:Heap}{args:List WData}{vals:List Value}
   (hpre:l.row.toRowW.claim.pre args=true) (hwl:WellAll P h vals args) :
   ∃a vs ns,vals=[Value.ref a]∧args=[WData.list (ns.map WData.int)]∧h.get? a=some { cls:=.type "list",data:=.seq vs.toArray }∧IntsAre vs ns∧ns.length≤n:=by
 have hsh:WShape.hasAll [] args [.list .int]=true:=(pre_splitW hpre).1
 have hc:l.pre.holds [] { args:=args }=true:=(pre_splitW hpre).2
 obtain ⟨d,r,rfl,h1,h2⟩:=hasAllW_cons hsh
 obtain rfl:=hasAllW_nil h2
 obtain ⟨xs,rfl,h3⟩:=hasW_list h1
 obtain ⟨ns,rfl⟩:=items_int h3
 have hlen:ns.length≤n:=by
   unfold OpenLaw.pre at hc
   have h4:(WTm.not (.lt (.lit (.int (n:Int))) (.len (.arg 0)))).holds [] { args:=[.list (ns.map .int)] }=true:=by
     have h4:=(holds_andW hc).1
     rw [hn] at h4
     exact h4
   have h5:=condW_of h4 (w_not (w_lt w_lit (w_len_list (w_arg rfl))))
   rw [List.length_map] at h5
   refine Nat.le_of_not_lt fun q=>?_
   have q':(n:Int) < ((ns.length:Nat):Int):=by omega
   first
     | (rw [decide_eq_true q'] at h5;exact absurd h5 (by decide))
     | (simp at h5;omega)
 cases hwl with
 | cons w1 w2 =>
   cases w2
   cases w1 with
   | list ho hall=>exact ⟨_,_,ns,rfl,rfl,ho,ints_of_wellAll ns _ hall,hlen⟩

theorem post_true (l:OpenLaw) (args:List WData):l.row.toRowW.claim.post args (.bool true) args=true :=
 postW_of (r:=l.row.toRowW) (X:=(true == true))
   (show WShape.has [] (.bool true) .bool=true by first | rfl | decide | simp [WShape.has,WShape.arms,WShape.armsAll])
   (show (WTm.eq .res (.lit (.bool true))).value [] { args:=args,res:=some (.bool true),after:=args }=some (.bool (true == true)) from w_eq_bool (w_res rfl) w_lit) rfl

theorem attach_call {l:OpenLaw}{n:Nat}{q:Program}{loose:List Str}{XP:(Str→Option Value)→Heap→Prop}{YP:World→Heap→Prop}{d:DefRec}
   (hn:l.most=some n) (hdf:d.params.defaults=[])
   (call:∀(w:World) (s₀ s₁:Shared) (mg mb:Str→Option Value) (fa:Addr) (o:Obj) (pm cd doc:Value) (a:Addr) (vs:List Value) (ns:List Int),
     Ground q loose [] XP w s₀ mg mb s₁.heap→YP w s₁.heap →
     s₁.heap.get? fa=some o→o.data=.func (docDef d.name d.params d.body d.scope pm cd doc)→s₁.heap.CodeRec cd d.name→mg d.name=some (.ref fa) →
     s₁.heap.get? a=some { cls:=.type "list",data:=.seq vs.toArray }→IntsAre vs ns→ns.length≤n→s₁.gens=#[] →
     codeAny (model l.prog w) callerA (.call (.ref fa) ⟨[.ref a],[]⟩) (fun r s'=>r=.ok (.ret (.bool true))∧OldK s₁.heap s'.heap∧s'.os=s₁.os∧AllBare s'.gens) s₁) :
   WalkO q loose XP YP l.row.toRowW d [] (fun f vs=>PySem.call f vs):=by
 intro w s₀ s₁ mg mb G Y fa o pm cd doc dV kV ho hd hcd hD hmg hg args vals as hpre hlay hrd hwl hlo
 obtain rfl:dV=.none:=Dflts.none hD hdf
 obtain rfl:kV=.none:=Dflts.noKw hD
 obtain ⟨a,vs,ns,rfl,rfl,hobj,hints,hlen⟩:=script_of hn hpre hwl
 refine enter_call (codeAny_mono (call w s₀ s₁ mg mb fa o pm cd doc a vs ns G Y ho (fd_plain hd) hcd hmg hobj hints hlen hg) fun r s' hq=>?_)
 obtain ⟨rfl,h2,h3,h4⟩:=hq
 exact ⟨.inl ⟨.bool true,.bool true,[],rfl,fun _=>rfl,.bool true,post_true l _,fun _=>⟨List.Pairwise.nil,fun _ hm=>(nomatch hm)⟩⟩,h2,h3,h4⟩

section
variable {prog:Program}{w:World}{A:Around}{E:Value→Shared→Prop}{s:Shared}{K:Frag}

def ledger (h:Heap) (L d:Addr):List (Addr×Obj):=(List.range h.objs.size).filterMap fun a=>if a=L∨a=d then none else (h.get? a).map fun o=>(a,o)
end
end Att

namespace L2
open PySem PySem.Spec PyProof.Rows

theorem vals_ints:∀{vs:List Value}{ns:List Int},IntsAre vs ns→Vals (ns.map V.int) vs
 | _,_,.nil=>.nil
 | _,_,.cons n t h=>.cons ⟨t,rfl⟩ (vals_ints h)

def Only (H:Hp):Prop:=∀b,H b=none∨∃o xs,H b=some (.frz o (.lst xs))

theorem law_call {P:Program}{w:World}{K:PySem.W.Frag}{mg mb:Str→Option Value}{CX:CXT}{k:Nat}{fa a:Addr}{fd:FuncData}{x:Str}{sp:Sp}{s₁:Shared}{vs:List Value}{ns:List Int}
   (KX:K.In s₁.heap) (hns:s₁.heap.Ns mainGlobals mg) (hb:s₁.heap.Ns builtinsNs mb) (hbb:∀x:Str,x≠"__name__"→mb x=bootBuiltins x) (hlim:s₁.heap.NoLimit) (hg:s₁.gens=#[])
   (ha:s₁.heap.get? a=some { cls:=.type "list",data:=.seq vs.toArray }) (hi:IntsAre vs ns) (hl:ns.length≤sizeLine) (hr:Room k callerA)
   (F:∀base:Heap,K.In base→base.Ns mainGlobals mg→FnOk P w K mg base CX k fa fd [x] sp) (hbind:∀(s:Shared) (u:Value),BindsTo s fd ⟨[u],[]⟩ [(x,u)])
   (hsp:∀H:Hp,Only H→SqL K H a (ns.map V.int)→sp [.ref a] H (fun v _=>v=.bl true) fun _ _ _=>False)
   (hCX:∀H e s',CX [] H s₁ (fun _ _ _=>False) e s'→False) :
   codeAny (model P w) callerA (.call (.ref fa) ⟨[.ref a],[]⟩) (fun r s'=>r=.ok (.ret (.bool true))∧OldK s₁.heap s'.heap∧s'.os=s₁.os∧AllBare s'.gens) s₁:=by
 have rv:=vals_ints hi
 have lenV:=hi.length
 -- from an abstract heap in which nothing but the script may be tracked
 have core:∀H:Hp,Only H→SqL K H a (ns.map V.int)→HOk P w H s₁.heap→(∀b,H b≠none→b=a)→(H a≠none→K.lookup a=none) →
     codeAny (model P w) callerA (.call (.ref fa) ⟨[.ref a],[]⟩) (fun r s'=>r=.ok (.ret (.bool true))∧OldK s₁.heap s'.heap∧s'.os=s₁.os∧AllBare s'.gens) s₁:=by
   intro H hO hS hok hA hK
   have base_of:∀{b:Addr}{o:Obj},s₁.heap.get? b=some o→H b=none→(hidT s₁.heap H).get? b=some o:=fun e n=>hidT_get e n
   have noA:∀{b:Addr}{o:Obj}{es:Array DictEntry}{ep:Nat},s₁.heap.get? b=some o→o.data=.dict es ep→H b=none:=fun {b o es ep} e d=>by
     cases q:H b with
     | none=>rfl
     | some u =>
       have e':b=a:=hA b (by rw [q];simp)
       subst e'
       rw [ha] at e;cases e
       have d':Data.seq vs.toArray _=Data.dict es ep:=d
       cases d'
   have nsK:∀{b:Addr}{m:Str→Option Value},s₁.heap.Ns b m→(hidT s₁.heap H).Ns b m:=fun {b m} ⟨o,es,ep,e,d,r⟩=>⟨o,es,ep,base_of e (noA e d),d,r⟩
   have hKb:K.In (hidT s₁.heap H):=fun b o e=>base_of (KX b o e) (by
     cases q:H b with
     | none=>rfl
     | some u =>
       have e':b=a:=hA b (by rw [q];simp)
       subst e'
       rw [hK (by rw [q];simp)] at e;cases e)
   have hM:Mod K mg (hidT s₁.heap H):=⟨hKb,nsK hns,⟨mb,nsK hb,hbb⟩,let ⟨mc,h1,h2⟩:=hlim;⟨mc,nsK h1,h2⟩⟩
   have e0:Env0 P w K mg (hidT s₁.heap H) callerA [] s₁ H:=⟨rfl,hM,fun b o e=>of_hidT e,Nat.le_of_eq (hidT_size _ _),trivial,fun b hb=>absurd (show b∈([]:List Addr) from hb) (by simp),hok,.of_eq hg⟩
   refine codeAny_mono ((F _ hKb (nsK hns)).run callerA [] s₁ H ⟨[.ref a],[]⟩ [.ref a] [.ref a] _ _ hr e0 (hbind s₁ (.ref a)) (.cons rfl .nil) (hsp H hO hS)) fun r s' h=>?_
   cases r with
   | error e=>exact (hCX H e s' h).elim
   | ok fl =>
     cases fl with
     | next=>exact False.elim h
     | brk=>exact False.elim h
     | cont=>exact False.elim h
     | ret u =>
       obtain ⟨v,H',os,bare,un,hok',r',q⟩:=h
       have q':v=.bl true:=q
       subst q'
       obtain rfl:u=Value.bool true:=r'
       refine ⟨rfl,OldK.of_keep fun b o e=>?_,os,bare⟩
       cases q:H b with
       | none=>exact un.keep b o e q (by intro z;exact absurd (show b∈([]:List Addr) from z) (by simp)) (by simp)
       | some u =>
         rcases hO b with z | ⟨ob,xs,z⟩
         · rw [q] at z;cases z
         · have z2:=un.frzs b ob _ z
           obtain ⟨e1,_⟩:=hok b _ z
           obtain ⟨e2,_⟩:=hok' b _ z2
           rw [e] at e1;cases e1
           exact e2
 cases hk:K.lookup a with
 | some o =>
   -- the script is one of the module's own objects
   have e:=KX a o hk
   rw [ha] at e
   cases e
   refine core (fun _=>none) (fun _=>.inl rfl) (.inr ⟨_,vs.toArray,_,hk,rfl,rfl,rfl,by rw [List.size_toArray,lenV];exact hl,by simpa using rv⟩) (fun b u z=>by have z':(none:Option HO)=some u:=z;cases z') (fun b z=>absurd rfl z) fun z=>absurd rfl z
 | none =>
   refine core (fun b=>if b=a then some (.frz { cls:=.type "list",data:=.seq vs.toArray } (.lst (ns.map V.int))) else none) (fun b=>?_) (.inl (.inr ⟨{ cls:=.type "list",data:=.seq vs.toArray },if_pos rfl⟩)) (fun b u z=>?_) (fun b z=>?_) fun _=>hk
   · by_cases hb:b=a
     · exact .inr ⟨_,_,if_pos hb⟩
     · exact .inl (if_neg hb)
   · by_cases hb:b=a
     · have z':=(if_pos hb).symm.trans z
       cases z'
       subst hb
       exact ⟨ha,by rw [List.length_map];exact hl,vs,_,rv,ha⟩
     · have z':=(if_neg hb).symm.trans z
       cases z'
   · by_cases hb:b=a
     · exact hb
     · exact absurd (if_neg hb) z
end L2

namespace L2
open PySem PySem.Spec PyProof.Rows

abbrev KOf {K:PySem.W.Frag}{h:Heap} (_:K.In h):PySem.W.Frag:=K

theorem walk_of {l:PySem.W.OpenLaw}{n k:Nat}{q:Program}{loose:List Str}{XP:(Str→Option Value)→Heap→Prop}{YP:World→Heap→Prop}{d:DefRec}{K:Params→PySem.W.Frag}{CX:World→CXT}{sp:World→Sp}{x:Str}
   (hn:l.most=some n) (hn2:n≤sizeLine) (hdf:d.params.defaults=[]) (hr:Room k callerA)
   (hY:∀(w:World) (h:Heap),YP w h→(K w.params).In h)
   (F:∀(w:World) (mg:Str→Option Value) (fa:Addr) (h:Heap),(K w.params).In h→h.Ns mainGlobals mg→mg d.name=some (.ref fa) →
     ∃fd:FuncData,(∀(s:Shared) (u:Value),BindsTo s fd ⟨[u],[]⟩ [(x,u)]) ∧
       ∀base:Heap,(K w.params).In base→base.Ns mainGlobals mg→FnOk l.prog w (K w.params) mg base (CX w) k fa fd [x] (sp w))
   (hsp:∀(w:World) (H:Hp) (a:Addr) (ns:List Int),ns.length≤n→Only H→SqL (K w.params) H a (ns.map V.int)→sp w [.ref a] H (fun v _=>v=.bl true) fun _ _ _=>False)
   (hCX:∀(w:World) (H:Hp) (s:Shared) (e:Value) (s':Shared),CX w [] H s (fun _ _ _=>False) e s'→False) :
   PySem.W.WalkO q loose XP YP l.row.toRowW d [] (fun f vs=>PySem.call f vs):=by
 refine Att.attach_call hn hdf fun w s₀ s₁ mg mb fa o pm cd doc a vs ns G Y ho hd hcd hmg hobj hints hlen hg=>?_
 have KX:=hY w _ Y
 obtain ⟨fd,hb,hF⟩:=F w mg fa _ KX G.T.g hmg
 exact law_call KX G.T.g G.T.b G.T.builtins G.T.nolimit hg hobj hints (Nat.le_trans hlen hn2) hr hF hb (fun H hO hS=>hsp w H a ns hlen hO hS) fun H e s'=>hCX w H s₁ e s'
end L2

/- THE LAST THEOREM (shape;LID,My.* are yours):
  My.Adr: a structure of the addresses that your layer names (classes,functions);My.Txt K t: a structure (Prop) of the equations over K;
  My.txt_mk:{K}{implicit addresses ..} (e1:nsIn K mainGlobals "law"=some (some (.ref f))) (e2:K.lookup f=some ⟨oc,od,.func (fnOf "law" "law" params body scope dV kV doc pm an cdv ct),sl⟩) (e3:codeIn K cdv "law"=true) ..:∃t,My.Txt K t

set_option maxRecDepth 100000 in
set_option maxHeartbeats 0 in
theorem PySem.Challenge.cw_LID_holds : PySem.Challenge.rw_LID.Holds := by
 w_on;o_law;k_head;(case hw=>w_witness2)
 k_fill
 refine L2.walk_of (l:=PySem.Challenge.rw_LID) (n:=63) (k:=40) (x:="script") (CX:=fun w=>..) (sp:=fun _=>My.sp_law) rfl (by decide) rfl ⟨rfl,by decide,by decide⟩ (fun w h Y=>PySem.W.kIn_of Y) ?F ?S ?C
 case F =>
   intro w mg fa h KX G hmg
   have T:∃t,My.Txt (L2.KOf KX) t:=by
     dsimp only [L2.KOf]                          -- K must stand as «<heap const> w.params» for k_is
     refine' My.txt_mk ?e1 ?e2 ?e3 ..
     (case e1=>PySem.W.k_is)                    -- in the order: a name -> its address -> its object -> its parts
     (case e2=>PySem.W.k_is)
     ..
   obtain ⟨t,T⟩:=T
   have e0:=hmg.symm.trans (PySem.W.mg_of KX G T.law)
   cases e0                                       -- fa is the law's own address
   exact ⟨_,fun s u=>.of_eq rfl,fun base kb nb=>My.law_fn T kb nb⟩     -- if «.of_eq rfl» comes too early: refine' ⟨_,?b,fun base kb nb=>My.law_fn T kb nb⟩;exact fun s u=>.of_eq rfl
 case S=>exact fun w H a ns hl hO hS=>..
 case C=>exact ..
(the tactic k_is has no namespace: write k_is) -/

namespace L2
open PySem PySem.Spec PyProof.Rows

def zes (s:Stmt) (j:Nat):Stmt:=match s with
 | .ClassDef _ _ _ body _ _ _ _ _ _ _=>body.getD j (.Pass ⟨0,0,0,0⟩)
 | _=>.Pass ⟨0,0,0,0⟩
def defArgs (s:Stmt):Arguments:=match s with
 | .FunctionDef _ a _ _ _ _ _ _ _ _=>a
 | _=>{ posonlyargs:=[],args:=[],vararg:=none,kwonlyargs:=[],kw_defaults:=[],kwarg:=none,defaults:=[] }
def zaj (s:Stmt):List Stmt:=match s with
 | .FunctionDef _ _ b _ _ _ _ _ _ _=>b
 | _=>[]
def zab (s:Stmt):Scope:=match s with
 | .FunctionDef _ _ _ _ _ _ sc _ _ _=>sc
 | _=>{ kind:=.function,names:=[],isGenerator:=false,isCoroutine:=false }

abbrev CX0:CXT:=fun _ _ _ _ _ _=>False
abbrev E0:XK:=fun _ _ _=>False
theorem pass0 {X:Cx}:Passes CX0 X E0:=fun _ _ _ _ _ _ _ h=>h.elim


theorem iteF {A B:Prop} (h:B):if false=true then A else B:=by
 rw [if_neg Bool.false_ne_true]
 exact h
theorem iteT {A B:Prop} (h:A):if true=true then A else B:=by
 rw [if_pos rfl]
 exact h
end L2
namespace L2
open PySem PySem.Spec PyProof.Rows




section
variable {X:Cx}{pins:List (Addr×Obj)}{σ:St}{H:Hp}{s:Shared}{a:Addr}{y v:V}{u r:Value}{o:Option V}{A:Around}{E:Value→Shared→Prop}

end










end L2
namespace F
open PySem L2

def nStar:Expr→Bool
 | .Starred ..=>false
 | _=>true
theorem zbp {e:Expr}{es:List Expr}{env:Env} (h:nStar e=true):starEach (e::es) env=(false,eval e env)::starEach es env:=by
 cases e <;> first | rfl | cases h
theorem zck {pos:Pos}{env:Env}:∀{es:List Expr},es.all nStar=true→(backTo pos (starEach es env)).any (·.1)=false
 | [],_=>rfl
 | e::es,h=>by
   rw [List.all_cons,Bool.and_eq_true] at h
   rw [zbp h.1]
   show (false || (backTo pos (starEach es env)).any (·.1))=false
   rw [zck h.2];rfl
structure LT where
 params:Arguments
 body:Expr
 scope:Scope
 qual:Str
 caps:List Str:=[]
inductive D where
 | non | bl (b:Bool) | int (i:Int) | str (x:Str) | fn (x:Str) | ty (n:String)
 | tup (ds:List D) | lst (ds:List D) | obj (i:Nat) | lam (t:LT) | clo (t:LT) (vs:List D)
inductive MO where
 | lst (ds:List D) | ins (c:Str) (fs:List (Str×D)) | dct (kvs:List (Int×D)) | exc (c:Str) | tab (x q:Str)
abbrev Sto:=List MO
abbrev Ev:=List (Option D)
abbrev E:=Ev→Sto→Option (D×Sto)
abbrev B:=Ev→Sto→Option (Bool×Sto)
abbrev As:=Ev→Sto→Option (List D×Sto)
abbrev G:=List D→Sto→Option (D×Sto)
inductive Out where
 | nx (e:Ev) | rt (d:D) | bk (e:Ev) | ct (e:Ev)
abbrev C:=Ev→Sto→Option (Out×Sto)

def TupAt (K:PySem.W.Frag) (ρ:List Addr) (H:Hp) (p:Addr) (vs:List V):Prop :=
 (p∉ρ∧Rd H p (.tup vs))∨∃(o:Obj) (its:Array Value) (n:Nat),K.lookup p=some o∧o.cls=.type "tuple"∧o.data=.seq its n∧its.size≤sizeLine∧Vals vs its.toList
def LstAt (K:PySem.W.Frag) (ρ:List Addr) (H:Hp) (p:Addr) (vs:List V):Prop :=
 (p∉ρ∧Rd H p (.lst vs))∨∃(o:Obj) (its:Array Value) (n:Nat),K.lookup p=some o∧o.cls=.type "list"∧o.dict=none∧o.data=.seq its n∧its.size≤sizeLine∧Vals vs its.toList
theorem TupAt.sq {K ρ H p vs} (h:TupAt K ρ H p vs):SqT K H p vs:=by
 rcases h with ⟨_,h⟩ | h
 · exact .inl h
 · exact .inr h
theorem LstAt.sq {K ρ H p vs} (h:LstAt K ρ H p vs):SqL K H p vs:=by
 rcases h with ⟨_,h⟩ | h
 · exact .inl h
 · exact .inr h

def codeP (c:Addr) (q:Str):Heap→Prop:=fun h=>h.CodeRec (.ref c) q
def lamP (t:LT) (a c:Addr) (pm ct:Value):Heap→Prop:=fun h=>h.get? a=some (PySem.W.kla_obj "<lambda>" t.qual t.params t.body t.scope [] pm c ct)
def LamAt (ρ:List Addr) (H:Hp) (t:LT) (a:Addr):Prop:=a∉ρ∧∃c pm ct,c∉ρ∧H a=some (.ext (lamP t a c pm ct))∧H c=some (.ext (codeP c t.qual))
def cloP (t:LT) (cl:List (Str×Addr)) (a c:Addr) (pm ct:Value):Heap→Prop:=fun h=>h.get? a=some (PySem.W.kla_obj "<lambda>" t.qual t.params t.body t.scope cl pm c ct)
def Cells (ρ:List Addr) (H:Hp):List Str→List V→List (Str×Addr)→Prop
 | [],[],[]=>True
 | x::xs,u::us,p::cl=>p.1=x∧p.2∉ρ∧(∃(o:Obj) (w:Value),H p.2=some (.frz o (.own 0))∧o.data=.cell (some w)∧RelV u w)∧Cells ρ H xs us cl
 | _,_,_=>False
def CloAt (ρ:List Addr) (H:Hp) (t:LT) (us:List V) (a:Addr):Prop:=a∉ρ∧∃c pm ct cl,c∉ρ∧H a=some (.ext (cloP t cl a c pm ct))∧H c=some (.ext (codeP c t.qual))∧(cl.map (·.2)).Nodup∧Cells ρ H t.caps us cl
section
variable (K:PySem.W.Frag) (mg:Str→Option Value)
mutual
def Rep (ρ:List Addr) (H:Hp):D→V→Prop
 | .non,v=>v=.non
 | .bl b,v=>v=.bl b
 | .int i,v=>v=.int i
 | .str x,v=>v=.str x
 | .fn x,v=>∃a,v=.ref a∧mg x=some (.ref a)
 | .ty n,v=>v=.ty n
 | .tup ds,v=>∃p vs,v=.ref p∧TupAt K ρ H p vs∧RepL ρ H ds vs
 | .lst ds,v=>∃p vs,v=.ref p∧LstAt K ρ H p vs∧RepL ρ H ds vs
 | .obj i,v=>∃a,v=.ref a∧ρ[i]? = some a
 | .lam t,v=>∃a,v=.ref a∧LamAt ρ H t a
 | .clo t vs,v=>∃a us,v=.ref a∧CloAt ρ H t us a∧RepL ρ H vs us
def RepL (ρ:List Addr) (H:Hp):List D→List V→Prop
 | [],vs=>vs=[]
 | d::ds,vs=>∃v r,vs=v::r∧Rep ρ H d v∧RepL ρ H ds r
end
end

structure Ext (ρ:List Addr) (H:Hp) (ρ':List Addr) (H':Hp):Prop where
 pre:∀(i:Nat) (a:Addr),ρ[i]? = some a→ρ'[i]? = some a
 keep:∀b o,H b=some o→b∉ρ→H' b=some o
 new:∀b,b∈ρ'→b∉ρ→H b=none
theorem Ext.refl (ρ:List Addr) (H:Hp):Ext ρ H ρ H:=⟨fun _ _ h=>h,fun _ _ h _=>h,fun _ h n=>absurd h n⟩
theorem Ext.out {ρ ρ' H H'} (e:Ext ρ H ρ' H') {b:Addr}{o:HO} (h:H b=some o) (n:b∉ρ):b∉ρ':=fun z=>by
 have:=e.new b z n
 rw [h] at this;cases this
theorem Ext.trans {ρ ρ' ρ'' H H' H''} (a:Ext ρ H ρ' H') (b:Ext ρ' H' ρ'' H''):Ext ρ H ρ'' H'' where
 pre:=fun i x h=>b.pre i x (a.pre i x h)
 keep:=fun c o h n=>b.keep c o (a.keep c o h n) (a.out h n)
 new:=fun c h n=>by
   by_cases z:c∈ρ'
   · exact a.new c z n
   · cases q:H c with
     | none=>rfl
     | some o =>
       have:=a.keep c o q n
       rw [b.new c h z] at this;cases this

section
variable {K:PySem.W.Frag}{mg:Str→Option Value}{ρ ρ':List Addr}{H H':Hp}
theorem TupAt.mono {p vs} (h:TupAt K ρ H p vs) (e:Ext ρ H ρ' H'):TupAt K ρ' H' p vs:=by
 rcases h with ⟨n,h | ⟨o,h⟩⟩ | h
 · exact .inl ⟨e.out h n,.inl (e.keep _ _ h n)⟩
 · exact .inl ⟨e.out h n,.inr ⟨o,e.keep _ _ h n⟩⟩
 · exact .inr h
theorem LstAt.mono {p vs} (h:LstAt K ρ H p vs) (e:Ext ρ H ρ' H'):LstAt K ρ' H' p vs:=by
 rcases h with ⟨n,h | ⟨o,h⟩⟩ | h
 · exact .inl ⟨e.out h n,.inl (e.keep _ _ h n)⟩
 · exact .inl ⟨e.out h n,.inr ⟨o,e.keep _ _ h n⟩⟩
 · exact .inr h
theorem LamAt.mono {t a} (h:LamAt ρ H t a) (e:Ext ρ H ρ' H'):LamAt ρ' H' t a:=by
 obtain ⟨n,c,pm,ct,nc,h1,h2⟩:=h
 exact ⟨e.out h1 n,c,pm,ct,e.out h2 nc,e.keep _ _ h1 n,e.keep _ _ h2 nc⟩
theorem Cells.mono (e:Ext ρ H ρ' H'):∀{xs:List Str}{us:List V}{cl:List (Str×Addr)},Cells ρ H xs us cl→Cells ρ' H' xs us cl
 | [],[],[],_=>trivial
 | x::xs,u::us,p::cl,h=>by
   obtain ⟨h1,h2,⟨o,w,h3,h4⟩,h5⟩:=h
   exact ⟨h1,e.out h3 h2,⟨o,w,e.keep _ _ h3 h2,h4⟩,Cells.mono e h5⟩
 | [],[],_::_,h=>h.elim
 | [],_::_,_,h=>h.elim
 | _::_,[],_,h=>h.elim
 | _::_,_::_,[],h=>h.elim
theorem CloAt.mono {t us a} (h:CloAt ρ H t us a) (e:Ext ρ H ρ' H'):CloAt ρ' H' t us a:=by
 obtain ⟨n,c,pm,ct,cl,nc,h1,h2,h3,h4⟩:=h
 exact ⟨e.out h1 n,c,pm,ct,cl,e.out h2 nc,e.keep _ _ h1 n,e.keep _ _ h2 nc,h3,h4.mono e⟩
mutual
theorem Rep.mono (e:Ext ρ H ρ' H'):∀{d:D}{v:V},Rep K mg ρ H d v→Rep K mg ρ' H' d v
 | .non,_,h=>h
 | .bl _,_,h=>h
 | .int _,_,h=>h
 | .str _,_,h=>h
 | .fn _,_,h=>h
 | .ty _,_,h=>h
 | .tup ds,_,h=>by
   unfold Rep at h ⊢
   obtain ⟨p,vs,e1,t,r⟩:=h
   exact ⟨p,vs,e1,t.mono e,RepL.mono e r⟩
 | .lst ds,_,h=>by
   unfold Rep at h ⊢
   obtain ⟨p,vs,e1,t,r⟩:=h
   exact ⟨p,vs,e1,t.mono e,RepL.mono e r⟩
 | .obj i,_,h=>by
   unfold Rep at h ⊢
   obtain ⟨a,e1,t⟩:=h
   exact ⟨a,e1,e.pre _ _ t⟩
 | .lam t,_,h=>by
   unfold Rep at h ⊢
   obtain ⟨a,e1,t⟩:=h
   exact ⟨a,e1,t.mono e⟩
 | .clo t vs,_,h=>by
   unfold Rep at h ⊢
   obtain ⟨a,us,e1,t,r⟩:=h
   exact ⟨a,us,e1,t.mono e,RepL.mono e r⟩
theorem RepL.mono (e:Ext ρ H ρ' H'):∀{ds:List D}{vs:List V},RepL K mg ρ H ds vs→RepL K mg ρ' H' ds vs
 | [],_,h=>h
 | d::ds,_,h=>by
   unfold RepL at h ⊢
   obtain ⟨v,r,e1,h1,h2⟩:=h
   exact ⟨v,r,e1,Rep.mono e h1,RepL.mono e h2⟩
end
theorem RepL.nil:RepL K mg ρ H [] []:=by unfold RepL;rfl
theorem RepL.cons {d ds v vs} (h:Rep K mg ρ H d v) (t:RepL K mg ρ H ds vs):RepL K mg ρ H (d::ds) (v::vs):=by
 unfold RepL;exact ⟨v,vs,rfl,h,t⟩
theorem RepL.length:∀{ds:List D}{vs:List V},RepL K mg ρ H ds vs→ds.length=vs.length
 | [],_,h=>by unfold RepL at h;subst h;rfl
 | d::ds,_,h=>by
   unfold RepL at h
   obtain ⟨v,r,rfl,_,h2⟩:=h
   rw [List.length_cons,List.length_cons,h2.length]
theorem RepL.get:∀{ds:List D}{vs:List V}{i:Nat}{d:D},RepL K mg ρ H ds vs→ds[i]? = some d→∃v,vs[i]? = some v∧Rep K mg ρ H d v
 | [],_,_,_,_,e=>by simp at e
 | d::ds,_,0,x,h,e=>by
   unfold RepL at h
   obtain ⟨v,r,rfl,h1,_⟩:=h
   simp at e;subst e
   exact ⟨v,rfl,h1⟩
 | d::ds,_,i + 1,x,h,e=>by
   unfold RepL at h
   obtain ⟨v,r,rfl,_,h2⟩:=h
   obtain ⟨u,e1,e2⟩:=RepL.get (i:=i) (d:=x) h2 (by simpa using e)
   exact ⟨u,by simpa using e1,e2⟩
theorem RepL.append:∀{ds es:List D}{vs us:List V},RepL K mg ρ H ds vs→RepL K mg ρ H es us→RepL K mg ρ H (ds++es) (vs++us)
 | [],_,_,_,h,t=>by unfold RepL at h;subst h;exact t
 | d::ds,_,_,_,h,t=>by
   unfold RepL at h
   obtain ⟨v,r,rfl,h1,h2⟩:=h
   exact RepL.cons h1 (RepL.append h2 t)
theorem RepL.take:∀{ds:List D}{vs:List V} (n:Nat),RepL K mg ρ H ds vs→RepL K mg ρ H (ds.take n) (vs.take n)
 | _,_,0,_=>by simpa using RepL.nil
 | [],_,_ + 1,h=>by unfold RepL at h;subst h;simpa using RepL.nil
 | d::ds,_,n + 1,h=>by
   unfold RepL at h
   obtain ⟨v,r,rfl,h1,h2⟩:=h
   exact RepL.cons h1 (RepL.take n h2)
theorem RepL.drop:∀{ds:List D}{vs:List V} (n:Nat),RepL K mg ρ H ds vs→RepL K mg ρ H (ds.drop n) (vs.drop n)
 | _,_,0,h=>by simpa using h
 | [],_,_ + 1,h=>by unfold RepL at h;subst h;simpa using RepL.nil
 | d::ds,_,n + 1,h=>by
   unfold RepL at h
   obtain ⟨v,r,rfl,h1,h2⟩:=h
   simpa using RepL.drop n h2
theorem RepL.reverse:∀{ds:List D}{vs:List V},RepL K mg ρ H ds vs→RepL K mg ρ H ds.reverse vs.reverse
 | [],_,h=>by unfold RepL at h;subst h;exact RepL.nil
 | d::ds,_,h=>by
   unfold RepL at h
   obtain ⟨v,r,rfl,h1,h2⟩:=h
   rw [List.reverse_cons,List.reverse_cons]
   exact RepL.append (RepL.reverse h2) (RepL.cons h1 RepL.nil)
theorem RepL.set {x:D}{u:V} (q:Rep K mg ρ H x u):∀{ds:List D}{vs:List V} (n:Nat),RepL K mg ρ H ds vs→RepL K mg ρ H (ds.set n x) (vs.set n u)
 | [],_,_,h=>by unfold RepL at h;subst h;simpa using RepL.nil
 | d::ds,_,0,h=>by
   unfold RepL at h
   obtain ⟨v,r,rfl,h1,h2⟩:=h
   exact RepL.cons q h2
 | d::ds,_,n + 1,h=>by
   unfold RepL at h
   obtain ⟨v,r,rfl,h1,h2⟩:=h
   exact RepL.cons h1 (RepL.set q n h2)
end

def RepF (K:PySem.W.Frag) (mg:Str→Option Value) (ρ:List Addr) (H:Hp) (fs:List (Str×D)) (vs:List (Str×V)):Prop :=
 vs.map (·.1)=fs.map (·.1)∧RepL K mg ρ H (fs.map (·.2)) (vs.map (·.2))
def TabOf (K:PySem.W.Frag) (mg:Str→Option Value) (x:Str) (a:Addr):Prop:=∃(f:Addr) (o:Obj) (fd:FuncData) (c:Addr),mg x=some (.ref f)∧K.lookup f=some o∧o.data=.func fd∧fd.code=.ref c∧PySem.W.codeHdIn K c a=true
def MOk (K:PySem.W.Frag) (mg:Str→Option Value) (ρ:List Addr) (H:Hp) (a:Addr):MO→Prop
 | .lst ds=>∃vs,H a=some (.lst vs)∧RepL K mg ρ H ds vs
 | .ins c fs=>∃C dx vs,mg c=some (.ref C)∧H a=some (.ins C dx vs)∧RepF K mg ρ H fs vs
 | .dct kvs=>∃vs:List (Key×V),H a=some (.dK vs)∧vs.map (·.1)=kvs.map (fun p=>Sum.inl p.1)∧RepL K mg ρ H (kvs.map (·.2)) (vs.map (·.2))
 | .exc c=>∃C,mg c=some (.ref C)∧H a=some (.ext fun h=>∃o,h.get? a=some o∧o.cls=.ref C)
 | .tab x q=>TabOf K mg x a∧∃ps:Array Value,H a=some (.tbl ps)∧TriplesOk ps.toList∧∀(pos:Pos) (cv:Value),codeAmong pos ps.toList=some cv→∃c,cv=.ref c∧c∉ρ∧H c=some (.ext (codeP c q))
structure StOk (K:PySem.W.Frag) (mg:Str→Option Value) (ρ:List Addr) (H:Hp) (S:Sto):Prop where
 len:ρ.length=S.length
 nd:ρ.Nodup
 ob:∀(i:Nat) (m:MO) (a:Addr),S[i]? = some m→ρ[i]? = some a→MOk K mg ρ H a m
section
variable {K:PySem.W.Frag}{mg:Str→Option Value}{ρ ρ':List Addr}{H H':Hp}{S:Sto}
theorem MOk.mono {a m} (h:MOk K mg ρ H a m) (e:Ext ρ H ρ' H') (k:H' a=H a):MOk K mg ρ' H' a m:=by
 cases m with
 | lst ds=>obtain ⟨vs,h1,h2⟩:=h;exact ⟨vs,k.trans h1,h2.mono e⟩
 | ins c fs=>obtain ⟨C,dx,vs,h0,h1,h2,h3⟩:=h;exact ⟨C,dx,vs,h0,k.trans h1,h2,h3.mono e⟩
 | dct kvs=>obtain ⟨vs,h1,h2,h3⟩:=h;exact ⟨vs,k.trans h1,h2,h3.mono e⟩
 | exc c=>obtain ⟨C,h1,h2⟩:=h;exact ⟨C,h1,k.trans h2⟩
 | tab x q =>
   obtain ⟨h0,ps,h1,h2,h3⟩:=h
   exact ⟨h0,ps,k.trans h1,h2,fun pos cv z=>let ⟨c,z1,z2,z3⟩:=h3 pos cv z;⟨c,z1,e.out z3 z2,e.keep _ _ z3 z2⟩⟩
theorem MOk.some {a m} (h:MOk K mg ρ H a m):∃o,H a=some o:=by
 cases m with
 | lst ds=>obtain ⟨vs,h1,h2⟩:=h;exact ⟨_,h1⟩
 | ins c fs=>obtain ⟨C,dx,vs,h0,h1,h2,h3⟩:=h;exact ⟨_,h1⟩
 | dct kvs=>obtain ⟨vs,h1,h2,h3⟩:=h;exact ⟨_,h1⟩
 | exc c=>obtain ⟨C,h1,h2⟩:=h;exact ⟨_,h2⟩
 | tab x q=>obtain ⟨_,ps,h1,_⟩:=h;exact ⟨_,h1⟩
theorem StOk.at (s:StOk K mg ρ H S) {i:Nat}{a:Addr} (h:ρ[i]? = some a):∃m,S[i]? = some m∧MOk K mg ρ H a m:=by
 have hi:i < ρ.length:=(List.getElem?_eq_some_iff.mp h).1
 have hj:i < S.length:=by rw [← s.len];exact hi
 exact ⟨S[i],List.getElem?_eq_getElem hj,s.ob i _ a (List.getElem?_eq_getElem hj) h⟩
theorem StOk.mem (s:StOk K mg ρ H S) {a} (h:a∈ρ):∃o,H a=some o:=by
 obtain ⟨i,hi,e⟩:=List.mem_iff_getElem.mp h
 obtain ⟨m,_,q⟩:=s.at (i:=i) (a:=a) (by rw [List.getElem?_eq_getElem hi,e])
 exact q.some
theorem StOk.fresh (s:StOk K mg ρ H S) {p} (h:H p=none):p∉ρ:=fun z=>by
 obtain ⟨o,e⟩:=s.mem z
 rw [h] at e;cases e
theorem zei (s:StOk K mg ρ H S) {p:Addr} (o:HO) (h:H p=none):Ext ρ H ρ (upd H p o) :=
 ⟨fun _ _ e=>e,fun b u e _=>by rw [zcc (zcn e h)];exact e,fun _ z n=>absurd z n⟩
theorem StOk.new (s:StOk K mg ρ H S) {p:Addr} (o:HO) (h:H p=none):StOk K mg ρ (upd H p o) S :=
 ⟨s.len,s.nd,fun i m a e1 e2=>by
   have q:=s.ob i m a e1 e2
   obtain ⟨u,z⟩:=q.some
   exact q.mono (zei s o h) (zcc (zcn z h))⟩
theorem ext_set (s:StOk K mg ρ H S) {i:Nat}{a:Addr} (o:HO) (h:ρ[i]? = some a):Ext ρ H ρ (upd H a o) :=
 ⟨fun _ _ e=>e,fun b u e n=>by rw [zcc (fun (z:b=a)=>n (by rw [z];exact List.mem_of_getElem? h))];exact e,fun _ z n=>absurd z n⟩
theorem nodup_at {l:List Addr} (hN:l.Nodup) {i j:Nat}{x:Addr} (a:l[i]? = some x) (b:l[j]? = some x):i=j:=by
 obtain ⟨h1,e1⟩:=List.getElem?_eq_some_iff.mp a
 obtain ⟨h2,e2⟩:=List.getElem?_eq_some_iff.mp b
 exact (List.getElem_inj hN).mp (e1.trans e2.symm)
theorem StOk.set (s:StOk K mg ρ H S) {i:Nat}{a:Addr}{o:HO}{m:MO} (h:ρ[i]? = some a) (q:MOk K mg ρ (upd H a o) a m):StOk K mg ρ (upd H a o) (S.set i m):=by
 refine ⟨by rw [List.length_set];exact s.len,s.nd,fun j m' b e1 e2=>?_⟩
 by_cases hj:j=i
 · subst hj
   have hi:j < S.length:=by rw [← s.len];exact (List.getElem?_eq_some_iff.mp h).1
   rw [List.getElem?_set_self hi] at e1
   cases e1
   rw [h] at e2;cases e2
   exact q
 · rw [List.getElem?_set_ne (Ne.symm hj)] at e1
   exact (s.ob j m' b e1 e2).mono (ext_set s o h) (zcc fun z=>hj (nodup_at s.nd (z ▸ e2) h))
theorem ext_add (s:StOk K mg ρ H S) {p:Addr} (o:HO) (h:H p=none):Ext ρ H (ρ++[p]) (upd H p o) :=
 ⟨fun i a e=>by rw [List.getElem?_append_left (List.getElem?_eq_some_iff.mp e).1];exact e,fun b u e _=>by rw [zcc (zcn e h)];exact e,
   fun b z n=>by
     rcases List.mem_append.mp z with z | z
     · exact absurd z n
     · rw [List.mem_singleton.mp z];exact h⟩
theorem StOk.add (s:StOk K mg ρ H S) {p:Addr}{o:HO}{m:MO} (h:H p=none) (q:MOk K mg (ρ++[p]) (upd H p o) p m):StOk K mg (ρ++[p]) (upd H p o) (S++[m]):=by
 refine ⟨by rw [List.length_append,List.length_append,s.len] <;> rfl,?_,fun j m' b e1 e2=>?_⟩
 · rw [List.nodup_append]
   refine ⟨s.nd,by simp,fun x hx y hy=>?_⟩
   rw [List.mem_singleton.mp hy]
   exact fun z=>s.fresh h (z ▸ hx)
 · by_cases hj:j < S.length
   · rw [List.getElem?_append_left hj] at e1
     rw [List.getElem?_append_left (by rw [s.len];exact hj)] at e2
     have q:=s.ob j m' b e1 e2
     obtain ⟨u,z⟩:=q.some
     exact q.mono (ext_add s o h) (zcc (zcn z h))
   · rw [List.getElem?_append_right (by omega)] at e1
     rw [List.getElem?_append_right (by rw [s.len];omega)] at e2
     have e0:j - S.length=0:=by
       have:=(List.getElem?_eq_some_iff.mp e1).1
       simp at this;omega
     rw [e0] at e1
     rw [s.len,e0] at e2
     simp at e1 e2
     subst e1 e2
     exact q
theorem Rep.tup {p ds vs}{s:StOk K mg ρ H S} (h:H p=none) (r:RepL K mg ρ H ds vs):Rep K mg ρ (upd H p (.tup vs)) (.tup ds) (.ref p):=by
 unfold Rep
 exact ⟨p,vs,rfl,.inl ⟨s.fresh h,.inl zda⟩,r.mono (zei s _ h)⟩
theorem Rep.lst {p ds vs}{s:StOk K mg ρ H S} (h:H p=none) (r:RepL K mg ρ H ds vs):Rep K mg ρ (upd H p (.lst vs)) (.lst ds) (.ref p):=by
 unfold Rep
 exact ⟨p,vs,rfl,.inl ⟨s.fresh h,.inl zda⟩,r.mono (zei s _ h)⟩
end

structure EnvR (K:PySem.W.Frag) (mg:Str→Option Value) (ρ:List Addr) (H:Hp) (ev:Ev) (σ:St):Prop where
 len:ev.length=σ.length
 at_:∀(i:Nat) (d:D),ev[i]? = some (some d)→∃v,σ[i]? = some (some v)∧Rep K mg ρ H d v
section
variable {K:PySem.W.Frag}{mg:Str→Option Value}{ρ ρ':List Addr}{H H':Hp}{ev:Ev}{σ:St}
theorem EnvR.mono (h:EnvR K mg ρ H ev σ) (e:Ext ρ H ρ' H'):EnvR K mg ρ' H' ev σ :=
 ⟨h.len,fun i d q=>let ⟨v,a,b⟩:=h.at_ i d q;⟨v,a,b.mono e⟩⟩
theorem EnvR.set (h:EnvR K mg ρ H ev σ) {d v} (r:Rep K mg ρ H d v) (i:Nat):EnvR K mg ρ H (ev.set i (some d)) (σ.set i (some v)):=by
 refine ⟨by rw [List.length_set,List.length_set];exact h.len,fun j x q=>?_⟩
 by_cases hj:j=i
 · subst hj
   have hi:j < ev.length:=by
     have:=(List.getElem?_eq_some_iff.mp q).1
     rwa [List.length_set] at this
   rw [List.getElem?_set_self hi] at q
   cases q
   exact ⟨v,by rw [List.getElem?_set_self (by rw [← h.len];exact hi)],r⟩
 · rw [List.getElem?_set_ne (Ne.symm hj)] at q ⊢
   exact h.at_ j x q
theorem EnvR.start {N:List Str}{ds:List D}{vs:List V} (h:RepL K mg ρ H ds vs):EnvR K mg ρ H (ds.map some++List.replicate (N.length - ds.length) none) (L2.start N vs):=by
 have hl:=h.length
 refine ⟨by unfold L2.start;simp [hl],fun i d q=>?_⟩
 have hi:i < ds.length:=by
   by_cases hi:i < ds.length
   · exact hi
   · rw [List.getElem?_append_right (by simpa using hi),List.getElem?_replicate] at q
     split at q <;> cases q
 rw [List.getElem?_append_left (by simpa using hi),List.getElem?_map] at q
 cases e:ds[i]? with
 | none=>rw [e] at q;cases q
 | some x =>
   rw [e] at q;cases q
   obtain ⟨v,e1,r⟩:=h.get e
   refine ⟨v,?_,r⟩
   unfold L2.start
   rw [List.getElem?_append_left (by simpa [← hl] using hi),List.getElem?_map,e1]
   rfl
end

section
variable (K:PySem.W.Frag) (mg:Str→Option Value)
def tE (f:E):TE:=fun σ H Q=>∃ρ ev S d S',EnvR K mg ρ H ev σ∧StOk K mg ρ H S∧f ev S=some (d,S') ∧
 ∀v ρ' H',Ext ρ H ρ' H'→StOk K mg ρ' H' S'→Rep K mg ρ' H' d v→Q v H'
def tB (f:B):TT:=fun σ H Q=>∃ρ ev S b S',EnvR K mg ρ H ev σ∧StOk K mg ρ H S∧f ev S=some (b,S') ∧
 ∀ρ' H',Ext ρ H ρ' H'→StOk K mg ρ' H' S'→Q b H'
def tAs (f:As):TA:=fun σ H Q=>∃ρ ev S ds S',EnvR K mg ρ H ev σ∧StOk K mg ρ H S∧f ev S=some (ds,S') ∧
 ∀vs ρ' H',Ext ρ H ρ' H'→StOk K mg ρ' H' S'→RepL K mg ρ' H' ds vs→Q vs H'
def Post (D:Ends) (S':Sto) (ρ:List Addr) (H:Hp):Out→Prop
 | .nx e=>∀σ' ρ' H',Ext ρ H ρ' H'→StOk K mg ρ' H' S'→EnvR K mg ρ' H' e σ'→D.nx σ' H'
 | .bk e=>∀σ' ρ' H',Ext ρ H ρ' H'→StOk K mg ρ' H' S'→EnvR K mg ρ' H' e σ'→D.bk σ' H'
 | .ct e=>∀σ' ρ' H',Ext ρ H ρ' H'→StOk K mg ρ' H' S'→EnvR K mg ρ' H' e σ'→D.ct σ' H'
 | .rt d=>∀v ρ' H',Ext ρ H ρ' H'→StOk K mg ρ' H' S'→Rep K mg ρ' H' d v→D.rt v H'
def tC (f:C):TS:=fun D σ H=>∃ρ ev S o S',EnvR K mg ρ H ev σ∧StOk K mg ρ H S∧f ev S=some (o,S')∧Post K mg D S' ρ H o
def spG (g:G):Sp:=fun vs H Q _=>∃ρ ds S d S',RepL K mg ρ H ds vs∧StOk K mg ρ H S∧g ds S=some (d,S') ∧
 ∀v ρ' H',Ext ρ H ρ' H'→StOk K mg ρ' H' S'→Rep K mg ρ' H' d v→Q v H'
end
theorem Post.ext {K mg}{D:Ends}{S':Sto}{ρ ρ' H H'} (e:Ext ρ H ρ' H'):∀{o:Out},Post K mg D S' ρ H o→Post K mg D S' ρ' H' o
 | .nx _,h=>fun σ' _ _ e'=>h σ' _ _ (e.trans e')
 | .bk _,h=>fun σ' _ _ e'=>h σ' _ _ (e.trans e')
 | .ct _,h=>fun σ' _ _ e'=>h σ' _ _ (e.trans e')
 | .rt _,h=>fun v _ _ e'=>h v _ _ (e.trans e')

def FE (X:Cx) (e:Expr) (f:E):Prop:=PE X e (tE X.K X.mg f)
def FB (X:Cx) (e:Expr) (f:B):Prop:=PT X e (tB X.K X.mg f)
def FW (X:Cx) (e:Expr) (f:B):Prop:=PW X e (tB X.K X.mg f)
def FA (X:Cx) (es:List Expr) (f:As):Prop:=PA X es (tAs X.K X.mg f)
def FS (X:Cx) (st:Stmt) (f:C):Prop:=PS X st (tC X.K X.mg f)
def FSs (X:Cx) (st:List Stmt) (f:C):Prop:=PSs X st (tC X.K X.mg f)
theorem zct {X:Cx}{e:Expr}{t t':TE} (h:PE X e t) (m:∀σ H Q,t' σ H Q→t σ H Q):PE X e t':=fun pins s σ H Q I q=>h pins s σ H Q I (m _ _ _ q)
theorem pt_mono {X:Cx}{e:Expr}{t t':TT} (h:PT X e t) (m:∀σ H Q,t' σ H Q→t σ H Q):PT X e t':=fun pins s σ H Q I q=>h pins s σ H Q I (m _ _ _ q)
theorem pw_mono {X:Cx}{e:Expr}{t t':TT} (h:PW X e t) (m:∀σ H Q,t' σ H Q→t σ H Q):PW X e t':=fun w pins s σ H Q I q=>h w pins s σ H Q I (m _ _ _ q)
theorem pa_mono {X:Cx}{e:List Expr}{t t':TA} (h:PA X e t) (m:∀σ H Q,t' σ H Q→t σ H Q):PA X e t':=fun pos pins s σ H Q I q=>h pos pins s σ H Q I (m _ _ _ q)
theorem zfo {X:Cx}{e:Stmt}{t t':TS} (h:PS X e t) (m:∀σ H Q,t' Q σ H→t Q σ H):PS X e t':=fun pins s σ H Q I q=>h pins s σ H Q I (m _ _ _ q)
theorem pss_mono {X:Cx}{e:List Stmt}{t t':TS} (h:PSs X e t) (m:∀σ H Q,t' Q σ H→t Q σ H):PSs X e t':=fun pins s σ H Q I q=>h pins s σ H Q I (m _ _ _ q)
end F
namespace F
open PySem L2

def eV (i:Nat):E:=fun ev S=>match ev[i]? with
 | some (some d)=>some (d,S)
 | _=>none
def eK (d:D):E:=fun _ S=>some (d,S)
def e1 (op:D→Option D) (f:E):E:=fun ev S=>(f ev S).bind fun p=>(op p.1).map fun d=>(d,p.2)
def e2 (op:D→D→Option D) (f g:E):E:=fun ev S=>(f ev S).bind fun p=>(g ev p.2).bind fun q=>(op p.1 q.1).map fun d=>(d,q.2)
def e2s (op:Sto→D→D→Option D) (f g:E):E:=fun ev S=>(f ev S).bind fun p=>(g ev p.2).bind fun q=>(op q.2 p.1 q.1).map fun d=>(d,q.2)
def aN:As:=fun _ S=>some ([],S)
def aC (f:E) (g:As):As:=fun ev S=>(f ev S).bind fun p=>(g ev p.2).bind fun q=>some (p.1::q.1,q.2)
def eA (op:Sto→List D→Option D) (g:As):E:=fun ev S=>(g ev S).bind fun q=>(op q.2 q.1).map fun d=>(d,q.2)
def zak (g:G) (a:As):E:=fun ev S=>(a ev S).bind fun q=>g q.1 q.2
def zfp (c:Str) (S:Sto):D→Option (Nat×List (Str×D))
 | .obj i=>match S[i]? with
   | some (.ins c' fs)=>if c'=c then some (i,fs) else none
   | _=>none
 | _=>none
def zbh (c m:Str) (g:G) (f:E) (a:As):E:=fun ev S=>(f ev S).bind fun p=>(zfp c p.2 p.1).bind fun r=>if r.2.lookup m=none then (a ev p.2).bind fun q=>g (p.1::q.1) q.2 else none
def eMake (c:Str) (g:G) (a:As):E:=fun ev S=>(a ev S).bind fun q=>(g (.obj q.2.length::q.1) (q.2++[.ins c []])).bind fun r=>match r.1 with
 | .non=>some (.obj q.2.length,r.2)
 | _=>none
def eFld (c n:Str) (f:E):E:=fun ev S=>(f ev S).bind fun p=>(zfp c p.2 p.1).bind fun r=>(r.2.lookup n).map fun d=>(d,p.2)
def eNewL (g:As):E:=fun ev S=>(g ev S).bind fun q=>if q.1.length≤sizeLine then some (.obj q.2.length,q.2++[.lst q.1]) else none
def eTup (g:As):E:=eA (fun _ ds=>if ds.length≤sizeLine then some (.tup ds) else none) g
def eLst (g:As):E:=eA (fun _ ds=>if ds.length≤sizeLine then some (.lst ds) else none) g
def bE (f:E):B:=fun ev S=>(f ev S).bind fun p=>match p.1 with
 | .bl b=>some (b,p.2)
 | _=>none
def bNot (f:B):B:=fun ev S=>(f ev S).map fun p=>(!p.1,p.2)
def bAnd (f g:B):B:=fun ev S=>(f ev S).bind fun p=>if p.1=true then g ev p.2 else some (false,p.2)
def bOr (f g:B):B:=fun ev S=>(f ev S).bind fun p=>if p.1=true then some (true,p.2) else g ev p.2
def eNot (f:E):E:=e1 (fun d=>match d with | .bl b=>some (.bl !b) | _=>none) f
def eAnd (f g:E):E:=fun ev S=>(f ev S).bind fun p=>match p.1 with
 | .bl true=>g ev p.2
 | .bl false=>some (.bl false,p.2)
 | _=>none
def sNil:C:=fun ev S=>some (.nx ev,S)
def sSeq (a b:C):C:=fun ev S=>(a ev S).bind fun p=>match p.1 with
 | .nx e=>b e p.2
 | o=>some (o,p.2)
def sRet (f:E):C:=fun ev S=>(f ev S).map fun p=>(.rt p.1,p.2)
def sRetN:C:=fun _ S=>some (.rt .non,S)
def zds (f:E):C:=fun ev S=>(f ev S).map fun p=>(.nx ev,p.2)
def sSet (i:Nat) (f:E):C:=fun ev S=>(f ev S).map fun p=>(.nx (ev.set i (some p.1)),p.2)
def sPar (i j:Nat) (f:As):C:=fun ev S=>(f ev S).bind fun p=>match p.1 with
 | [a,b]=>some (.nx ((ev.set i (some a)).set j (some b)),p.2)
 | _=>none
def setAll (ev:Ev):List Nat→List D→Option Ev
 | [],[]=>some ev
 | i::is,d::ds=>setAll (ev.set i (some d)) is ds
 | _,_=>none
def sIf (c:B) (a b:C):C:=fun ev S=>(c ev S).bind fun p=>if p.1=true then a ev p.2 else b ev p.2
def sNever:C:=fun _ _=>none
def putD (n:Str) (d:D):List (Str×D)→List (Str×D)
 | []=>[(n,d)]
 | (g,x)::r=>if g=n then (g,d)::r else (g,x)::putD n d r
def zee (c n:Str) (o v:E):C:=fun ev S=>(v ev S).bind fun p=>(o ev p.2).bind fun q=>(zfp c q.2 q.1).bind fun r=>if r.2.length < 1000 then some (.nx ev,q.2.set r.1 (.ins c (putD n p.1 r.2))) else none
def sItem (o i v:E):C:=fun ev S=>(v ev S).bind fun p=>(o ev p.2).bind fun q=>(i ev q.2).bind fun r=>match q.1,r.1 with
 | .obj a,.int k=>(match r.2[a]? with
   | some (.lst ds)=>(ixN ds.length k).map fun j=>(.nx ev,r.2.set a (.lst (ds.set j p.1)))
   | _=>none)
 | _,_=>none
def zeh (o v:E):C:=fun ev S=>(o ev S).bind fun q=>match q.1 with
 | .obj a=>(match q.2[a]? with
   | some (.lst _)=>(v ev q.2).bind fun p=>(match p.2[a]? with
     | some (.lst ds)=>if ds.length < sizeLine then some (.nx ev,p.2.set a (.lst (ds++[p.1]))) else none
     | _=>none)
   | _=>none)
 | _=>none
def loopF (i:Nat) (body:C):List D→Ev→Sto→Option (Out×Sto)
 | [],ev,S=>some (.nx ev,S)
 | d::ds,ev,S=>(body (ev.set i (some d)) S).bind fun p=>match p.1 with
   | .nx e=>loopF i body ds e p.2
   | .ct e=>loopF i body ds e p.2
   | .bk e=>some (.nx e,p.2)
   | .rt x=>some (.rt x,p.2)
def zeg (lo:Int) (n:Nat):List D:=(List.range n).map fun k:Nat=>D.int (lo + (k:Int))
def sForR (i:Nat) (f:E) (body:C):C:=fun ev S=>(f ev S).bind fun p=>match p.1 with
 | .int j=>if -(2 ^ 62)≤j∧j < 2 ^ 62 then loopF i body (zeg 0 j.toNat) ev p.2 else none
 | _=>none
def zbe (N n:Nat) (c:C):G:=fun ds S=>if ds.length=n then (match c (ds.map some++List.replicate (N - ds.length) none) S with
 | some (.nx _,S1)=>some (.non,S1)
 | some (.rt d,S1)=>some (d,S1)
 | _=>none) else none

theorem zaz {α β:Type}{o:Option α}{f:α→Option β}{b:β} (h:o.bind f=some b):∃a,o=some a∧f a=some b:=by
 cases o with
 | none=>cases h
 | some a=>exact ⟨a,rfl,h⟩
theorem mapS {α β:Type}{o:Option α}{f:α→β}{b:β} (h:o.map f=some b):∃a,o=some a∧f a=b:=by
 cases o with
 | none=>cases h
 | some a=>exact ⟨a,rfl,Option.some.inj h⟩
section
variable {X:Cx}
def Snd2 (K:PySem.W.Frag) (mg:Str→Option Value) (R:R2) (op:Sto→D→D→Option D):Prop :=
 ∀(ρ:List Addr) (H:Hp) (S:Sto) (x y:V) (dx dy d:D) (Q:VK),StOk K mg ρ H S→Rep K mg ρ H dx x→Rep K mg ρ H dy y→op S dx dy=some d →
   (∀v H',Ext ρ H ρ H'→StOk K mg ρ H' S→Rep K mg ρ H' d v→Q v H')→R x y H Q
def SndA (K:PySem.W.Frag) (mg:Str→Option Value) (R:List V→Hp→VK→Prop) (op:Sto→List D→Option D):Prop :=
 ∀(ρ:List Addr) (H:Hp) (S:Sto) (xs:List V) (ds:List D) (d:D) (Q:VK),StOk K mg ρ H S→RepL K mg ρ H ds xs→op S ds=some d →
   (∀v H',Ext ρ H ρ H'→StOk K mg ρ H' S→Rep K mg ρ H' d v→Q v H')→R xs H Q
section
variable {K:PySem.W.Frag}{mg:Str→Option Value}{R R':R2}{op op':Sto→D→D→Option D}
theorem t2 (hs:Snd2 K mg R op) {f g:E}{σ:St}{H:Hp}{Q:VK} (h:tE K mg (e2s op f g) σ H Q):tOp R (tE K mg f) (tE K mg g) σ H Q:=by
 obtain ⟨ρ,ev,S,d,S',hE,hS,hf,k⟩:=h
 obtain ⟨⟨x,S1⟩,q1,hf⟩:=zaz hf
 obtain ⟨⟨y,S2⟩,q2,hf⟩:=zaz hf
 obtain ⟨z,q3,hf⟩:=mapS hf
 cases hf
 refine ⟨ρ,ev,S,x,S1,hE,hS,q1,fun v ρ1 H1 E1 hS1 r1=>⟨ρ1,ev,S1,y,S2,hE.mono E1,hS1,q2,fun u ρ2 H2 E2 hS2 r2=>?_⟩⟩
 exact hs ρ2 H2 _ v u x y _ Q hS2 (r1.mono E2) r2 q3 fun w H' E3 hS3 r3=>k w ρ2 H' ((E1.trans E2).trans E3) hS3 r3
end
theorem fe_bin {o:Operator}{R:R2}{op:Sto→D→D→Option D}{a b:Expr}{f g:E}{pos:Pos} (ho:OpR X (binaryOp o) R) (hs:Snd2 X.K X.mg R op) (ha:FE X a f) (hb:FE X b g):FE X (.BinOp a o b pos) (e2s op f g) :=
 zct (pe_op ho ha hb) fun _ _ _ h=>t2 hs h
theorem fe_cmp {o:CmpOp}{R:R2}{op:Sto→D→D→Option D}{a b:Expr}{f g:E}{pos:Pos} (ho:OpR X (compareOp o) R) (hs:Snd2 X.K X.mg R op) (ha:FE X a f) (hb:FE X b g) (hm:behindInMarks o b=false):FE X (.Compare a [o] [b] pos) (e2s op f g) :=
 zct (pe_cmpR ho ha hb hm) fun _ _ _ h=>t2 hs h
theorem tb_of {K mg}{f:E}{t:TE}{σ:St}{H:Hp}{Q:Bool→Hp→Prop} (m:∀Q,tE K mg f σ H Q→t σ H Q) (h:tB K mg (bE f) σ H Q):tTest t σ H Q:=by
 obtain ⟨ρ,ev,S,b,S',hE,hS,hf,k⟩:=h
 obtain ⟨⟨x,S1⟩,q1,hf⟩:=zaz hf
 cases x with
 | bl c =>
   cases hf
   refine m _ ⟨ρ,ev,S,_,_,hE,hS,q1,fun v ρ1 H1 E1 hS1 r1=>?_⟩
   exact ⟨b,r1,k ρ1 H1 E1 hS1⟩
 | _=>cases hf
theorem fb_cmp {o:CmpOp}{R:R2}{op:Sto→D→D→Option D}{a b:Expr}{f g:E}{pos:Pos} (ho:OpR X (compareOp o) R) (hs:Snd2 X.K X.mg R op) (ha:FE X a f) (hb:FE X b g) (hm:behindInMarks o b=false):FB X (.Compare a [o] [b] pos) (bE (e2s op f g)) :=
 pt_mono (pt_cmpR ho ha hb hm) fun _ _ _ h=>tb_of (fun _ h=>t2 hs h) h

theorem fe_v (i:Nat) {x:Str}{pos:Pos} (hN:X.N[i]? = some x:=by rfl) (hv:Vis X.env.scope x:=by first | exact Or.inl rfl | exact Or.inr (Or.inl rfl) | exact Or.inr (Or.inr rfl)) (hd:(x == ("__debug__":Str))=false:=by decide)
   (hcd:(x == ("__classdict__":Str))=false:=by decide):FE X (.Name x pos) (eV i) :=
 zct (pe_var hN hv hd hcd) fun σ H Q h=>by
   obtain ⟨ρ,ev,S,d,S',hE,hS,hf,k⟩:=h
   unfold eV at hf
   split at hf
   · rename_i x e
     cases hf
     obtain ⟨v,e1,r⟩:=hE.at_ i _ e
     exact ⟨v,e1,k v ρ H (Ext.refl _ _) hS r⟩
   · cases hf
theorem fe_const {e:Expr}{v:V}{d:D} (h:PE X e (L2.tC v)) (r:∀ρ H,Rep X.K X.mg ρ H d v):FE X e (eK d) :=
 zct h fun σ H Q h=>by
   obtain ⟨ρ,ev,S,d,S',hE,hS,hf,k⟩:=h
   cases hf
   exact k v ρ H (Ext.refl _ _) hS (r _ _)
theorem zai {i:Int}{j pos}:FE X (.Constant (.int i) j pos) (eK (.int i)):=fe_const pe_int fun _ _=>rfl
theorem fe_bl {b:Bool}{j pos}:FE X (.Constant (.bool b) j pos) (eK (.bl b)):=fe_const pe_bl fun _ _=>rfl
theorem zcb {j pos}:FE X (.Constant .none j pos) (eK .non):=fe_const pe_non fun _ _=>rfl
theorem zca {x:Str}{j pos}:FE X (.Constant (.str x) j pos) (eK (.str x)):=fe_const pe_str fun _ _=>rfl
theorem zba {x:Str}{n:Int}{pos:Pos} (hm:∃t,X.mg x=some (.int n t)) (hg:Gl X x:=by rfl) (hd:(x == ("__debug__":Str))=false:=by decide):FE X (.Name x pos) (eK (.int n)):=by
 obtain ⟨t,hm⟩:=hm
 exact fe_const (pe_glob hg hm (v:=.int n) ⟨t,rfl⟩ hd) fun _ _=>rfl
theorem fe_gf {x:Str}{pos:Pos} (hm:∃f,X.mg x=some (.ref f)) (hg:Gl X x:=by rfl) (hd:(x == ("__debug__":Str))=false:=by decide):FE X (.Name x pos) (eK (.fn x)):=by
 obtain ⟨f,hm⟩:=hm
 exact fe_const (pe_glob hg hm (v:=.ref f) rfl hd) fun ρ H=>by unfold Rep;exact ⟨f,rfl,hm⟩

theorem zac:FA X [] aN:=pa_mono pa_nil fun σ H Q h=>by
 obtain ⟨ρ,ev,S,d,S',hE,hS,hf,k⟩:=h
 cases hf
 exact k [] ρ H (Ext.refl _ _) hS RepL.nil
theorem zaa {e:Expr}{es:List Expr}{f:E}{g:As} (ha:FE X e f) (hr:FA X es g) (hs:starEach (e::es) X.env=(false,eval e X.env)::starEach es X.env:=by exact zbp rfl):FA X (e::es) (aC f g) :=
 pa_mono (pa_cons ha hr hs) fun σ H Q h=>by
   obtain ⟨ρ,ev,S,d,S',hE,hS,hf,k⟩:=h
   obtain ⟨⟨x,S1⟩,q1,hf⟩:=zaz hf
   obtain ⟨⟨y,S2⟩,q2,hf⟩:=zaz hf
   cases hf
   refine ⟨ρ,ev,S,x,S1,hE,hS,q1,fun v ρ1 H1 E1 hS1 r1=>⟨ρ1,ev,S1,y,_,hE.mono E1,hS1,q2,fun vs ρ2 H2 E2 hS2 r2=>?_⟩⟩
   exact k (v::vs) ρ2 H2 (E1.trans E2) hS2 (RepL.cons (r1.mono E2) r2)
theorem tA {K mg}{R:List V→Hp→VK→Prop}{op:Sto→List D→Option D} (hs:SndA K mg R op) {g:As}{σ:St}{H:Hp}{Q:VK} (h:tE K mg (eA op g) σ H Q):tAs K mg g σ H fun vs H1=>R vs H1 Q:=by
 obtain ⟨ρ,ev,S,d,S',hE,hS,hf,k⟩:=h
 obtain ⟨⟨x,S1⟩,q1,hf⟩:=zaz hf
 obtain ⟨z,q3,hf⟩:=mapS hf
 cases hf
 exact ⟨ρ,ev,S,x,_,hE,hS,q1,fun vs ρ1 H1 E1 hS1 r1=>hs ρ1 H1 _ vs x _ Q hS1 r1 q3 fun w H' E3 hS3 r3=>k w ρ1 H' (E1.trans E3) hS3 r3⟩
theorem zcy {es:List Expr}{g:As}{x1 pos} (h:FA X es g):FE X (.Tuple es x1 pos) (eTup g) :=
 zct (pe_tup h) fun σ H Q h=>tA (K:=X.K) (mg:=X.mg) (R:=fun xs H1 Q=>xs.length≤sizeLine∧∀p,H1 p=none→Q (.ref p) (upd H1 p (.tup xs))) (fun ρ H S xs ds d Q hS r e k=>by
   split at e
   · rename_i hl
     cases e
     exact ⟨by rw [← r.length];exact hl,fun p hp=>k _ _ (zei hS _ hp) (hS.new _ hp) (Rep.tup (s:=hS) hp r)⟩
   · cases e) h
theorem fe_lst {es:List Expr}{g:As}{pos} (h:FA X es g):FE X (.List es pos) (eLst g) :=
 zct (pe_lst h) fun σ H Q h=>tA (K:=X.K) (mg:=X.mg) (R:=fun xs H1 Q=>xs.length≤sizeLine∧∀p,H1 p=none→Q (.ref p) (upd H1 p (.lst xs))) (fun ρ H S xs ds d Q hS r e k=>by
   split at e
   · rename_i hl
     cases e
     exact ⟨by rw [← r.length];exact hl,fun p hp=>k _ _ (zei hS _ hp) (hS.new _ hp) (Rep.lst (s:=hS) hp r)⟩
   · cases e) h
theorem fe_newL {es:List Expr}{g:As}{pos} (h:FA X es g):FE X (.List es pos) (eNewL g) :=
 zct (pe_lst h) fun σ H Q h=>by
   obtain ⟨ρ,ev,S,d,S',hE,hS,hf,k⟩:=h
   obtain ⟨⟨x,S1⟩,q1,hf⟩:=zaz hf
   dsimp only at hf
   split at hf
   · rename_i hl
     cases hf
     refine ⟨ρ,ev,S,x,S1,hE,hS,q1,fun vs ρ1 H1 E1 hS1 r1=>⟨by rw [← r1.length];exact hl,fun p hp=>?_⟩⟩
     refine k _ _ _ (E1.trans (ext_add hS1 _ hp)) (hS1.add hp ⟨vs,zda,r1.mono (ext_add hS1 _ hp)⟩) ?_
     unfold Rep
     refine ⟨p,rfl,?_⟩
     rw [List.getElem?_append_right (by rw [hS1.len] <;> exact Nat.le_refl _),hS1.len]
     simp
   · cases hf
theorem fe_blt {id:String}{R:List V→Hp→VK→Prop}{op:Sto→List D→Option D}{x:Str}{p pos:Pos}{e:Expr}{es:List Expr}{g:As} (hc:CallR X (.builtin id) R) (hs:SndA X.K X.mg R op) (hm:X.mg x=none) (hv:bootBuiltins x=some (.builtin id)) (ha:FA X (e::es) g)
   (hg:Gl X x:=by rfl) (hn:x≠"__name__":=by decide) (hdb:(x == ("__debug__":Str))=false:=by decide)
   (he:starEach (e::es) X.env=(false,eval e X.env)::starEach es X.env:=by exact zbp rfl) (hpl:(backTo pos (starEach es X.env)).any (·.1)=false:=by exact zck rfl):FE X (.Call (.Name x p) (e::es) [] pos) (eA op g) :=
 zct (pe_callB hc hg hm hv ha hn hdb he hpl) fun σ H Q h=>tA hs h
theorem fe_ty {T:String}{R:List V→Hp→VK→Prop}{op:Sto→List D→Option D}{x:Str}{p pos:Pos}{e:Expr}{es:List Expr}{g:As} (hc:CallR X (.type T) R) (hs:SndA X.K X.mg R op) (hm:X.mg x=none) (hv:bootBuiltins x=some (.type T)) (ha:FA X (e::es) g)
   (hg:Gl X x:=by rfl) (hn:x≠"__name__":=by decide) (hdb:(x == ("__debug__":Str))=false:=by decide)
   (he:starEach (e::es) X.env=(false,eval e X.env)::starEach es X.env:=by exact zbp rfl) (hpl:(backTo pos (starEach es X.env)).any (·.1)=false:=by exact zck rfl):FE X (.Call (.Name x p) (e::es) [] pos) (eA op g) :=
 zct (pe_callTy hc hg hm hv ha hn hdb he hpl) fun σ H Q h=>tA hs h
end
end F
namespace F
open PySem L2

structure Cal (P:Program) (w:World) (K:PySem.W.Frag) (mg:Str→Option Value) (base:Heap) (k:Nat) (x:Str) (g:G):Prop where
 ex:∃(f:Addr) (fd:FuncData) (ps:List Str) (ds:List Value) (dvs:List V) (dds:List D) (gg:G),FnOk P w K mg base CX0 k f fd ps (spG K mg gg)∧mg x=some (.ref f)∧PySem.W.keepIn K (.ref f)=true ∧
   Binds K fd ps ds∧Vals dvs ds∧(∀ρ H,RepL K mg ρ H dds dvs)∧∀args S r,g args S=some r→gg (args++dds) S=some r
structure Mth (P:Program) (w:World) (K:PySem.W.Frag) (mg:Str→Option Value) (base:Heap) (k:Nat) (c m:Str) (g:G):Prop where
 ex:∃(C f:Addr) (fd:FuncData) (ps:List Str) (ds:List Value) (dvs:List V) (dds:List D) (gg:G),FnOk P w K mg base CX0 k f fd ps (spG K mg gg)∧mg c=some (.ref C)∧Cls K C∧Meth K C m f ∧
   Binds K fd ps ds∧Vals dvs ds∧(∀ρ H,RepL K mg ρ H dds dvs)∧∀args S r,g args S=some r→gg (args++dds) S=some r
structure Mak (P:Program) (w:World) (K:PySem.W.Frag) (mg:Str→Option Value) (base:Heap) (k:Nat) (c:Str) (g:G):Prop where
 ex:∃(C f:Addr) (fd:FuncData) (ps:List Str) (ds:List Value) (dvs:List V) (dds:List D) (gg:G),FnOk P w K mg base CX0 k f fd ps (spG K mg gg)∧mg c=some (.ref C)∧Mk K C f ∧
   Binds K fd ps ds∧Vals dvs ds∧(∀ρ H,RepL K mg ρ H dds dvs)∧∀args S r,g args S=some r→gg (args++dds) S=some r
def Fld (K:PySem.W.Frag) (mg:Str→Option Value) (c n:Str):Prop:=∀C,mg c=some (.ref C)→Cls K C∧NoAttr K C n

section
variable {X:Cx}{k:Nat}{x c m n:Str}{g:G}{e o:Expr}{es:List Expr}{a:As}{f:E}{p pos apos:Pos}
theorem tcall_of {K mg}{gg:G}{dds:List D}{dvs:List V} (hdd:∀ρ H,RepL K mg ρ H dds dvs) (hg:∀args S r,g args S=some r→gg (args++dds) S=some r) {σ:St}{H:Hp}{Q:VK} (h:tE K mg (zak g a) σ H Q) :
   tCall (spG K mg gg) dvs E0 (tAs K mg a) σ H Q:=by
 obtain ⟨ρ,ev,S,d,S',hE,hS,hf,k⟩:=h
 obtain ⟨⟨ds,S1⟩,q1,hf⟩:=zaz hf
 exact ⟨ρ,ev,S,ds,S1,hE,hS,q1,fun vs ρ1 H1 E1 hS1 r1=>⟨ρ1,ds++dds,S1,d,S',r1.append (hdd ρ1 H1),hS1,hg _ _ _ hf,fun v ρ' H' E' hS' r'=>k v ρ' H' (E1.trans E') hS' r'⟩⟩
theorem zae (cal:Cal X.prog X.w X.K X.mg X.base k x g) (hr:Room k X.A) (ha:FA X (e::es) a) (hg:Gl X x:=by rfl) (hdb:(x == ("__debug__":Str))=false:=by decide)
   (he:starEach (e::es) X.env=(false,eval e X.env)::starEach es X.env:=by exact zbp rfl) (hpl:(backTo pos (starEach es X.env)).any (·.1)=false:=by exact zck rfl) :
   FE X (.Call (.Name x p) (e::es) [] pos) (zak g a):=by
 obtain ⟨f,fd,ps,ds,dvs,dds,gg,F,hm,hk,hb,hd,hdd,hgg⟩:=cal.ex
 exact zct (pe_call F hr hg hm hk hb hd pass0 ha hdb he hpl) fun σ H Q h=>tcall_of hdd hgg h
theorem insAt_eq {c:Str}{S:Sto}{d:D}{r:Nat×List (Str×D)} (h:zfp c S d=some r):d=.obj r.1∧S[r.1]? = some (.ins c r.2):=by
 unfold zfp at h
 split at h
 · split at h
   · rename_i i _ c' fs e
     split at h
     · rename_i hc
       cases h
       subst hc
       exact ⟨rfl,e⟩
     · cases h
   · cases h
 · cases h
theorem rep_obj {K mg ρ H S} (hS:StOk K mg ρ H S) {c:Str}{i:Nat}{fs:List (Str×D)}{v:V} (h:S[i]? = some (.ins c fs)) (r:Rep K mg ρ H (.obj i) v) :
   ∃b C dx vs,v=.ref b∧ρ[i]? = some b∧mg c=some (.ref C)∧H b=some (.ins C dx vs)∧RepF K mg ρ H fs vs:=by
 unfold Rep at r
 obtain ⟨b,rfl,e⟩:=r
 obtain ⟨C,dx,vs,h1,h2,h3⟩:=hS.ob i _ b h e
 exact ⟨b,C,dx,vs,rfl,e,h1,h2,h3⟩
theorem lookup_none {fs:List (Str×D)}{vs:List (Str×V)}{m:Str} (h:vs.map (·.1)=fs.map (·.1)) (e:fs.lookup m=none):vs.lookup m=none:=by
 induction fs generalizing vs with
 | nil =>
   cases vs with
   | nil=>rfl
   | cons _ _=>cases h
 | cons q fs ih =>
   cases vs with
   | nil=>cases h
   | cons q' vs =>
     obtain ⟨a,b⟩:=q
     obtain ⟨a',b'⟩:=q'
     simp only [List.map_cons,List.cons.injEq] at h
     obtain ⟨h1,h2⟩:=h
     subst h1
     simp only [List.lookup] at e ⊢
     split at e
     · cases e
     · exact ih h2 e
theorem lookup_some {K mg ρ H}{fs:List (Str×D)}{vs:List (Str×V)}{m:Str}{d:D} (h:RepF K mg ρ H fs vs) (e:fs.lookup m=some d):∃v,vs.lookup m=some v∧Rep K mg ρ H d v:=by
 obtain ⟨h,r⟩:=h
 induction fs generalizing vs with
 | nil=>cases e
 | cons q fs ih =>
   cases vs with
   | nil=>cases h
   | cons q' vs =>
     obtain ⟨a,b⟩:=q
     obtain ⟨a',b'⟩:=q'
     simp only [List.map_cons,List.cons.injEq] at h
     obtain ⟨h1,h2⟩:=h
     subst h1
     rw [List.map_cons,List.map_cons] at r
     unfold RepL at r
     obtain ⟨u,t,e1,r1,r2⟩:=r
     cases e1
     simp only [List.lookup] at e ⊢
     split at e
     · cases e;exact ⟨_,rfl,r1⟩
     · exact ih e h2 r2
theorem zbd (mt:Mth X.prog X.w X.K X.mg X.base k c m g) (hr:Room k X.A) (ho:FE X o f) (ha:FA X (e::es) a) {pl:Sem Bool}
   (hst:starEach (e::es) X.env=(false,eval e X.env)::starEach es X.env:=by exact zbp rfl) (hpl:(backTo pos (starEach es X.env)).any (·.1)=false:=by exact zck rfl)
   (ht:eval (.Call (.Attribute o m apos) (e::es) [] pos) X.env=(do
     let ov ← eval o X.env
     standAt apos.atName
     let (f,first) ← holding [ov] (getMethod ov m pl)
     callWith pos f first (backTo pos (starEach (e::es) X.env)) (backToKw pos (keywordEach [] X.env))):=by rfl) :
   FE X (.Call (.Attribute o m apos) (e::es) [] pos) (zbh c m g f a):=by
 obtain ⟨C,fa,fd,ps,ds,dvs,dds,gg,F,hm,hc,hme,hb,hd,hdd,hgg⟩:=mt.ex
 refine zct (pe_meth ho hc hme F hr hb hd pass0 ha hst hpl ht) fun σ H Q h=>?_
 obtain ⟨ρ,ev,S,d,S',hE,hS,hf,k⟩:=h
 obtain ⟨⟨y,S1⟩,q1,hf⟩:=zaz hf
 obtain ⟨⟨i,fs⟩,q2,hf⟩:=zaz hf
 dsimp only at hf q2
 split at hf
 · rename_i hl
   obtain ⟨⟨ys,S2⟩,q3,hf⟩:=zaz hf
   obtain ⟨rfl,hi⟩:=insAt_eq q2
   refine ⟨ρ,ev,S,_,S1,hE,hS,q1,fun v ρ1 H1 E1 hS1 r1=>?_⟩
   obtain ⟨b,C',dx,vs,rfl,hb1,hm',hb2,hb3⟩:=rep_obj hS1 hi r1
   have ec:C'=C:=by rw [hm] at hm';cases hm';rfl
   subst ec
   refine ⟨b,dx,vs,rfl,hb2,lookup_none hb3.1 hl,ρ1,ev,S1,ys,S2,hE.mono E1,hS1,q3,fun us ρ2 H2 E2 hS2 r2=>?_⟩
   exact ⟨ρ2,_,S2,d,S',(RepL.cons (r1.mono E2) r2).append (hdd ρ2 H2),hS2,hgg _ _ _ hf,fun v ρ' H' E' hS' r'=>k v ρ' H' ((E1.trans E2).trans E') hS' r'⟩
 · cases hf
theorem zef (mt:Mth X.prog X.w X.K X.mg X.base k c m g) (hr:Room k X.A) (ho:FE X o f) {pl:Sem Bool}
   (ht:eval (.Call (.Attribute o m apos) [] [] pos) X.env=(do
     let ov ← eval o X.env
     standAt apos.atName
     let (f,first) ← holding [ov] (getMethod ov m pl)
     callWith pos f first (backTo pos (starEach [] X.env)) (backToKw pos (keywordEach [] X.env))):=by rfl) :
   FE X (.Call (.Attribute o m apos) [] [] pos) (zbh c m g f aN):=by
 obtain ⟨C,fa,fd,ps,ds,dvs,dds,gg,F,hm,hc,hme,hb,hd,hdd,hgg⟩:=mt.ex
 refine zct (pe_meth0 ho hc hme F hr hb hd pass0 ht) fun σ H Q h=>?_
 obtain ⟨ρ,ev,S,d,S',hE,hS,hf,k⟩:=h
 obtain ⟨⟨y,S1⟩,q1,hf⟩:=zaz hf
 obtain ⟨⟨i,fs⟩,q2,hf⟩:=zaz hf
 dsimp only at hf q2
 split at hf
 · rename_i hl
   obtain ⟨⟨ys,S2⟩,q3,hf⟩:=zaz hf
   cases q3
   obtain ⟨rfl,hi⟩:=insAt_eq q2
   refine ⟨ρ,ev,S,_,S1,hE,hS,q1,fun v ρ1 H1 E1 hS1 r1=>?_⟩
   obtain ⟨b,C',dx,vs,rfl,hb1,hm',hb2,hb3⟩:=rep_obj hS1 hi r1
   have ec:C'=C:=by rw [hm] at hm';cases hm';rfl
   subst ec
   refine ⟨b,dx,vs,rfl,hb2,lookup_none hb3.1 hl,?_⟩
   exact ⟨ρ1,_,S1,d,S',(RepL.cons r1 RepL.nil).append (hdd ρ1 H1),hS1,hgg _ _ _ hf,fun v ρ' H' E' hS' r'=>k v ρ' H' (E1.trans E') hS' r'⟩
 · cases hf
theorem tmake_of {K mg}{gg:G}{C:Addr}{dds:List D}{dvs:List V} (hm:mg c=some (.ref C)) (hdd:∀ρ H,RepL K mg ρ H dds dvs) (hg:∀args S r,g args S=some r→gg (args++dds) S=some r) {σ:St}{H:Hp}{Q:VK} (h:tE K mg (eMake c g a) σ H Q) :
   tMake C (spG K mg gg) dvs E0 (tAs K mg a) σ H Q:=by
 obtain ⟨ρ,ev,S,d,S',hE,hS,hf,k⟩:=h
 obtain ⟨⟨ds,S1⟩,q1,hf⟩:=zaz hf
 obtain ⟨⟨y,S2⟩,q2,hf⟩:=zaz hf
 dsimp only at hf
 cases y with
 | non =>
   cases hf
   refine ⟨ρ,ev,S,ds,S1,hE,hS,q1,fun vs ρ1 H1 E1 hS1 r1=>fun x dx nx ndx ne=>?_⟩
   have s0:=hS1.new (.own x) ndx
   have nx':upd H1 dx (.own x) x=none:=by rw [zcc (Ne.symm ne)];exact nx
   have e0:=zei hS1 (.own x) ndx
   have e1:=ext_add s0 (p:=x) (.ins C dx []) nx'
   have s1:StOk K mg (ρ1++[x]) (upd (upd H1 dx (.own x)) x (.ins C dx [])) (S1++[.ins c []]):=s0.add nx' ⟨C,dx,[],hm,zda,rfl,RepL.nil⟩
   have ro:Rep K mg (ρ1++[x]) (upd (upd H1 dx (.own x)) x (.ins C dx [])) (.obj S1.length) (.ref x):=by
     unfold Rep
     refine ⟨x,rfl,?_⟩
     rw [List.getElem?_append_right (by rw [hS1.len] <;> exact Nat.le_refl _),hS1.len]
     simp
   refine ⟨ρ1++[x],_,_,.non,_,RepL.cons ro ((r1.mono (e0.trans e1)).append (hdd _ _)),s1,hg _ _ _ q2,fun v ρ' H' E' hS' r'=>⟨r',?_⟩⟩
   exact k _ ρ' H' (E1.trans ((e0.trans e1).trans E')) hS' (ro.mono E')
 | _=>cases hf
theorem fe_make (mk:Mak X.prog X.w X.K X.mg X.base k c g) (hr:Room (k + 1) X.A) (ha:FA X (e::es) a) (hg:Gl X c:=by rfl) (hdb:(c == ("__debug__":Str))=false:=by decide)
   (he:starEach (e::es) X.env=(false,eval e X.env)::starEach es X.env:=by exact zbp rfl) (hpl:(backTo pos (starEach es X.env)).any (·.1)=false:=by exact zck rfl) :
   FE X (.Call (.Name c p) (e::es) [] pos) (eMake c g a):=by
 obtain ⟨C,f,fd,ps,ds,dvs,dds,gg,F,hm,M,hb,hd,hdd,hgg⟩:=mk.ex
 exact zct (pe_make M F hr hg hm hb hd pass0 ha hdb he hpl) fun σ H Q h=>tmake_of hm hdd hgg h
theorem fe_make0 (mk:Mak X.prog X.w X.K X.mg X.base k c g) (hr:Room (k + 1) X.A) (hg:Gl X c:=by rfl) (hdb:(c == ("__debug__":Str))=false:=by decide) :
   FE X (.Call (.Name c p) [] [] pos) (eMake c g aN):=by
 obtain ⟨C,f,fd,ps,ds,dvs,dds,gg,F,hm,M,hb,hd,hdd,hgg⟩:=mk.ex
 refine zct (pe_make0 M F hr hg hm hb hd pass0 hdb) fun σ H Q h=>?_
 have h':=tmake_of (C:=C) (gg:=gg) hm hdd hgg h
 obtain ⟨ρ,ev,S,d,S',hE,hS,hf,k⟩:=h'
 cases hf
 exact k [] ρ H (Ext.refl _ _) hS RepL.nil
theorem zcp (hc:Fld X.K X.mg c n) (ho:FE X o f) (hb:attributeBase o n X.env (eval o X.env)=eval o X.env:=by rfl):FE X (.Attribute o n pos) (eFld c n f) :=
 zct (pe_fld ho hb) fun σ H Q h=>by
   obtain ⟨ρ,ev,S,d,S',hE,hS,hf,k⟩:=h
   obtain ⟨⟨y,S1⟩,q1,hf⟩:=zaz hf
   obtain ⟨⟨i,fs⟩,q2,hf⟩:=zaz hf
   obtain ⟨d',q3,hf⟩:=mapS hf
   cases hf
   obtain ⟨rfl,hi⟩:=insAt_eq q2
   refine ⟨ρ,ev,S,_,_,hE,hS,q1,fun v ρ1 H1 E1 hS1 r1=>?_⟩
   obtain ⟨b,C,dx,vs,rfl,hb1,hm',hb2,hb3⟩:=rep_obj hS1 hi r1
   obtain ⟨v,e1,r2⟩:=lookup_some hb3 q3
   exact ⟨b,C,dx,vs,v,rfl,hb2,(hc C hm').1,(hc C hm').2,e1,k v ρ1 H1 E1 hS1 r2⟩
def eCallV (ft:Str→Option G) (f:E) (a:As):E:=fun ev S=>(f ev S).bind fun p=>match p.1 with
 | .fn x=>(ft x).bind fun g=>(a ev p.2).bind fun q=>g q.1 q.2
 | _=>none
theorem fe_callV {fe:Expr}{ft:Str→Option G} (hT:∀x g,ft x=some g→Cal X.prog X.w X.K X.mg X.base k x g) (hr:Room k X.A) (hf:FE X fe f) (ha:FA X (e::es) a)
   (ht:eval (.Call fe (e::es) [] pos) X.env=(eval fe X.env >>= fun v=>callWith pos v [] (backTo pos (starEach (e::es) X.env)) (backToKw pos (keywordEach [] X.env))):=by rfl)
   (he:starEach (e::es) X.env=(false,eval e X.env)::starEach es X.env:=by exact zbp rfl) (hpl:(backTo pos (starEach es X.env)).any (·.1)=false:=by exact zck rfl) :
   FE X (.Call fe (e::es) [] pos) (eCallV ft f a):=by
 intro pins s σ H Q I h
 rw [ht]
 obtain ⟨ρ,ev,S,d,S',hE,hS,hf',kk⟩:=h
 obtain ⟨⟨y,S1⟩,q1,hf'⟩:=zaz hf'
 cases y with
 | fn x =>
   dsimp only at hf'
   obtain ⟨g,hx,hf'⟩:=zaz hf'
   obtain ⟨f0,fd,ps,ds,dvs,dds,gg,F,hm,hk,hb,hd,hdd,hgg⟩:=(hT x g hx).ex
   refine wpAny_bind (thn (hf pins s σ H (fun v H1=>v=.ref f0∧tCall (spG X.K X.mg gg) dvs E0 (tAs X.K X.mg a) σ H1 Q) I ⟨ρ,ev,S,_,S1,hE,hS,q1,fun v ρ1 H1 E1 hS1 r1=>⟨?_,?_⟩⟩) fun u s1 ⟨v,H1,I1,rv,ev1,q⟩=>?_)
   · unfold Rep at r1
     obtain ⟨b,rfl,e1⟩:=r1
     rw [hm] at e1;cases e1;rfl
   · exact tcall_of (g:=g) hdd hgg ⟨ρ1,ev,S1,d,S',hE.mono E1,hS1,hf',fun v ρ' H' E' hS' r'=>kk v ρ' H' (E1.trans E') hS' r'⟩
   · subst ev1
     obtain rfl:u=Value.ref f0:=rv
     refine PySem.W.callWith_K (h₀:=X.base) I.ok.mod.kin hk (thn (ha pos pins s1 σ H1 _ I1 q) fun us s2 ⟨vs,H2,I2,r,q2⟩=>⟨I2.kIn,?_⟩) he hpl
     exact run_fn F hr hb hd pass0 I2 r q2
 | _=>cases hf'

theorem fb_val (h:FE X e f) (he:∀whole,isTrue e X.env whole=(do let v ← whole;standAt e.pos;holding [v] (truthy v)):=by intro _;rfl):FB X e (bE f) :=
 pt_mono (pt_val h he) fun σ H Q h=>by
   obtain ⟨ρ,ev,S,b,S',hE,hS,hf,k⟩:=h
   obtain ⟨⟨x,S1⟩,q1,hf⟩:=zaz hf
   cases x with
   | bl c =>
     cases hf
     exact ⟨ρ,ev,S,_,_,hE,hS,q1,fun v ρ1 H1 E1 hS1 r1=>⟨b,r1,k ρ1 H1 E1 hS1⟩⟩
   | _=>cases hf
variable {b:Expr}{rest:List Expr}{u v:B}
theorem fb_not (h:FB X e u):FB X (.UnaryOp .Not e pos) (bNot u):=pt_mono (pt_not h) fun σ H Q h=>by
 obtain ⟨ρ,ev,S,b,S',hE,hS,hf,k⟩:=h
 obtain ⟨⟨x,S1⟩,q1,hf⟩:=mapS hf
 cases hf
 exact ⟨ρ,ev,S,_,_,hE,hS,q1,fun ρ1 H1 E1 hS1=>k ρ1 H1 E1 hS1⟩
theorem fw_and1 (h:FB X e u):FW X (.BoolOp .And [e] pos) u:=pw_and1 h
theorem fw_or1 (h:FB X e u):FW X (.BoolOp .Or [e] pos) u:=pw_or1 h
theorem fw_and (h:FB X e u) (hb:FW X (.BoolOp .And (b::rest) pos) v):FW X (.BoolOp .And (e::b::rest) pos) (bAnd u v):=pw_mono (pw_and h hb) fun σ H Q h=>by
 obtain ⟨ρ,ev,S,b,S',hE,hS,hf,k⟩:=h
 obtain ⟨⟨x,S1⟩,q1,hf⟩:=zaz hf
 refine ⟨ρ,ev,S,x,S1,hE,hS,q1,fun ρ1 H1 E1 hS1=>?_⟩
 cases x with
 | true=>exact iteT ⟨ρ1,ev,S1,b,S',hE.mono E1,hS1,hf,fun ρ2 H2 E2 hS2=>k ρ2 H2 (E1.trans E2) hS2⟩
 | false=>cases hf;exact iteF (k ρ1 H1 E1 hS1)
theorem fw_or (h:FB X e u) (hb:FW X (.BoolOp .Or (b::rest) pos) v):FW X (.BoolOp .Or (e::b::rest) pos) (bOr u v):=pw_mono (pw_or h hb) fun σ H Q h=>by
 obtain ⟨ρ,ev,S,b,S',hE,hS,hf,k⟩:=h
 obtain ⟨⟨x,S1⟩,q1,hf⟩:=zaz hf
 refine ⟨ρ,ev,S,x,S1,hE,hS,q1,fun ρ1 H1 E1 hS1=>?_⟩
 cases x with
 | true=>cases hf;exact iteT (k ρ1 H1 E1 hS1)
 | false=>exact iteF ⟨ρ1,ev,S1,b,S',hE.mono E1,hS1,hf,fun ρ2 H2 E2 hS2=>k ρ2 H2 (E1.trans E2) hS2⟩
theorem fb_w (h:FW X e u):FB X e u:=h.pt
variable {g1 g2:E}
theorem fe_one {op} (h:FE X e g1):FE X (.BoolOp op [e] pos) g1:=pe_one h
theorem fe_and (h:FE X e g1) (hb:FE X (.BoolOp .And (b::rest) pos) g2):FE X (.BoolOp .And (e::b::rest) pos) (eAnd g1 g2):=zct (pe_and h hb) fun σ H Q h=>by
 obtain ⟨ρ,ev,S,d,S',hE,hS,hf,k⟩:=h
 obtain ⟨⟨x,S1⟩,q1,hf⟩:=zaz hf
 refine ⟨ρ,ev,S,x,S1,hE,hS,q1,fun w ρ1 H1 E1 hS1 r1=>?_⟩
 cases x with
 | bl c =>
   refine ⟨c,r1,?_⟩
   cases c with
   | true=>exact iteT ⟨ρ1,ev,S1,d,S',hE.mono E1,hS1,hf,fun v ρ2 H2 E2 hS2 r2=>k v ρ2 H2 (E1.trans E2) hS2 r2⟩
   | false=>cases hf;exact iteF (k _ ρ1 H1 E1 hS1 rfl)
 | _=>cases hf
theorem fe_not (h:FE X e g1):FE X (.UnaryOp .Not e pos) (eNot g1):=zct (pe_not h) fun σ H Q h=>by
 obtain ⟨ρ,ev,S,d,S',hE,hS,hf,k⟩:=h
 obtain ⟨⟨x,S1⟩,q1,hf⟩:=zaz hf
 obtain ⟨z,q2,hf⟩:=mapS hf
 cases hf
 refine ⟨ρ,ev,S,x,_,hE,hS,q1,fun w ρ1 H1 E1 hS1 r1=>?_⟩
 cases x with
 | bl c=>cases q2;exact ⟨c,r1,k _ ρ1 H1 E1 hS1 rfl⟩
 | _=>cases q2
end
end F
namespace F
open PySem L2
section
variable {X:Cx}{st:Stmt}{rest:List Stmt}{a b body:C}{e o:Expr}{f g h':E}{u:B}{pos pos':Pos}{x c n:Str}
theorem zau:FSs X [] sNil:=pss_mono pss_nil fun σ H D h=>by
 obtain ⟨ρ,ev,S,o,S',hE,hS,hf,k⟩:=h
 cases hf
 exact k σ ρ H (Ext.refl _ _) hS hE
theorem zad (h1:FS X st a) (h2:FSs X rest b):FSs X (st::rest) (sSeq a b):=pss_mono (pss_cons h1 h2) fun σ H D h=>by
 obtain ⟨ρ,ev,S,o,S',hE,hS,hf,k⟩:=h
 obtain ⟨⟨o1,S1⟩,q1,hf⟩:=zaz hf
 refine ⟨ρ,ev,S,o1,S1,hE,hS,q1,?_⟩
 cases o1 with
 | nx e=>exact fun σ' ρ' H' E' hS' hE'=>⟨ρ',e,S1,o,S',hE',hS',hf,k.ext E'⟩
 | rt d=>cases hf;exact k
 | bk e=>cases hf;exact k
 | ct e=>cases hf;exact k
theorem zag (h1:FS X st a):FSs X [st] a:=pss_one h1
theorem zan (h:FE X e f):FS X (.Return (some e) pos) (sRet f):=zfo (ps_ret h) fun σ H D h=>by
 obtain ⟨ρ,ev,S,o,S',hE,hS,hf,k⟩:=h
 obtain ⟨⟨d,S1⟩,q1,hf⟩:=mapS hf
 cases hf
 exact ⟨ρ,ev,S,d,_,hE,hS,q1,k⟩
theorem fs_retN:FS X (.Return none pos) sRetN:=zfo ps_retN fun σ H D h=>by
 obtain ⟨ρ,ev,S,o,S',hE,hS,hf,k⟩:=h
 cases hf
 exact k .non ρ H (Ext.refl _ _) hS rfl
theorem fs_never:FS X st sNever:=zfo ps_never fun σ H D h=>by
 obtain ⟨ρ,ev,S,o,S',hE,hS,hf,k⟩:=h
 cases hf
theorem zbw (h:FE X e f) (hs:swapsWith e none pos.line X.env=pure false:=by rfl):FS X (.Expr e pos) (zds f):=zfo (ps_expr h hs) fun σ H D h=>by
 obtain ⟨ρ,ev,S,o,S',hE,hS,hf,k⟩:=h
 obtain ⟨⟨d,S1⟩,q1,hf⟩:=mapS hf
 cases hf
 exact ⟨ρ,ev,S,d,_,hE,hS,q1,fun v ρ1 H1 E1 hS1 r1=>k σ ρ1 H1 E1 hS1 (hE.mono E1)⟩
theorem zat (i:Nat) (h:FE X e f) (hN:X.N.Nodup) (hi:X.N[i]? = some x:=by rfl) (hx:Loc X.env.scope x:=by first | exact Or.inl rfl | exact Or.inr rfl) (hs:swapsWith e (some (.Name x pos')) pos.line X.env=pure false:=by rfl)
   (hf:X.fn x=true∨X.env.scope.names.lookup x=some .local:=by first | exact .inl rfl | exact .inr rfl | assumption):FS X (.Assign [.Name x pos'] e pos) (sSet i f) :=
 zfo (ps_set hN hi hx h hs hf) fun σ H D h=>by
   obtain ⟨ρ,ev,S,o,S',hE,hS,hf,k⟩:=h
   obtain ⟨⟨d,S1⟩,q1,hf⟩:=mapS hf
   cases hf
   exact ⟨ρ,ev,S,d,_,hE,hS,q1,fun v ρ1 H1 E1 hS1 r1=>k _ ρ1 H1 E1 hS1 ((hE.mono E1).set r1 i)⟩
inductive Names (X:Cx):List Expr→List Nat→TGs→Prop where
 | nil:Names X [] [] gNil
 | cons {i:Nat}{x:Str}{px:Pos}{es:List Expr}{is:List Nat}{t:TGs} (hN:X.N.Nodup) (hi:X.N[i]? = some x) (hx:Loc X.env.scope x) (hf:X.fn x=true∨X.env.scope.names.lookup x=some .local) (h:Names X es is t) (p:PGs X (.Name x px::es) (gCons (gName i) t)):Names X (.Name x px::es) (i::is) (gCons (gName i) t)
theorem Names.pgs {es is t} (h:Names X es is t):PGs X es t:=by
 cases h with
 | nil=>exact pgs_nil
 | cons _ _ _ _ _ p=>exact p
theorem names_of {K mg ρ H}{es is t} (h:Names X es is t):∀{ds:List D}{vs:List V}{ev ev':Ev}{σ:St}{Q:St→Hp→Prop},RepL K mg ρ H ds vs→EnvR K mg ρ H ev σ→setAll ev is ds=some ev'→(∀σ',EnvR K mg ρ H ev' σ'→Q σ' H)→t vs σ H Q:=by
 induction h with
 | nil =>
   intro ds vs ev ev' σ Q r hE e k
   cases ds with
   | nil =>
     unfold RepL at r
     unfold setAll at e
     cases e
     exact ⟨r,k σ hE⟩
   | cons _ _=>unfold setAll at e;cases e
 | cons hN hi hx hf _ _ ih =>
   intro ds vs ev ev' σ Q r hE e k
   cases ds with
   | nil=>unfold setAll at e;cases e
   | cons d ds =>
     unfold RepL at r
     obtain ⟨v,r',rfl,r1,r2⟩:=r
     unfold setAll at e
     exact ⟨v,r',rfl,ih r2 (hE.set r1 _) e k⟩
theorem setAll_len:∀{is:List Nat}{ds:List D}{ev ev':Ev},setAll ev is ds=some ev'→ds.length=is.length
 | [],[],_,_,_=>rfl
 | i::is,d::ds,_,_,h=>by unfold setAll at h;rw [List.length_cons,List.length_cons,setAll_len h]
 | [],_::_,_,_,h=>by unfold setAll at h;cases h
 | _::_,[],_,_,h=>by unfold setAll at h;cases h
theorem zbu (hc:FB X e u) {sa sb:List Stmt} (ha:FSs X sa a) (hb:FSs X sb b):FS X (.If e sa sb pos) (sIf u a b):=zfo (ps_if hc ha hb) fun σ H D h=>by
 obtain ⟨ρ,ev,S,o,S',hE,hS,hf,k⟩:=h
 obtain ⟨⟨x,S1⟩,q1,hf⟩:=zaz hf
 refine ⟨ρ,ev,S,x,S1,hE,hS,q1,fun ρ1 H1 E1 hS1=>?_⟩
 cases x with
 | true=>exact iteT ⟨ρ1,ev,S1,o,S',hE.mono E1,hS1,hf,k.ext E1⟩
 | false=>exact iteF ⟨ρ1,ev,S1,o,S',hE.mono E1,hS1,hf,k.ext E1⟩
theorem putRep {K mg ρ H}{n:Str}{d:D}{v:V} (r:Rep K mg ρ H d v):∀{fs:List (Str×D)}{vs:List (Str×V)},RepF K mg ρ H fs vs→RepF K mg ρ H (putD n d fs) (putF n v vs)
 | [],vs,h=>by
   obtain ⟨h1,_⟩:=h
   cases vs with
   | nil=>exact ⟨rfl,RepL.cons r RepL.nil⟩
   | cons _ _=>cases h1
 | (a,b)::fs,vs,h=>by
   obtain ⟨h1,h2⟩:=h
   cases vs with
   | nil=>cases h1
   | cons q vs =>
     obtain ⟨a',b'⟩:=q
     simp only [List.map_cons,List.cons.injEq] at h1
     obtain ⟨h3,h4⟩:=h1
     subst h3
     rw [List.map_cons,List.map_cons] at h2
     unfold RepL at h2
     obtain ⟨u,t,e1,r1,r2⟩:=h2
     cases e1
     rw [show putD n d ((a',b)::fs)=(if a'=n then (a',d)::fs else (a',b)::putD n d fs) from rfl,show putF n v ((a',b')::vs)=(if a'=n then (a',v)::vs else (a',b')::putF n v vs) from rfl]
     by_cases hn:a'=n
     · rw [if_pos hn,if_pos hn]
       exact ⟨by simp [h4],RepL.cons r r2⟩
     · rw [if_neg hn,if_neg hn]
       obtain ⟨i1,i2⟩:=putRep r (fs:=fs) (vs:=vs) ⟨h4,r2⟩
       exact ⟨by rw [List.map_cons,List.map_cons,i1],RepL.cons r1 i2⟩
theorem fs_fld (hc:Fld X.K X.mg c n) (ho:FE X o f) (hv:FE X e g) (hs:swapsWith e (some (.Attribute o n pos')) pos.line X.env=pure false:=by rfl):FS X (.Assign [.Attribute o n pos'] e pos) (zee c n f g) :=
 zfo (ps_fld ho hv hs) fun σ H D h=>by
   obtain ⟨ρ,ev,S,o,S',hE,hS,hf,k⟩:=h
   obtain ⟨⟨d,S1⟩,q1,hf⟩:=zaz hf
   obtain ⟨⟨y,S2⟩,q2,hf⟩:=zaz hf
   obtain ⟨⟨i,fs⟩,q3,hf⟩:=zaz hf
   dsimp only at hf q3
   split at hf
   · rename_i hl
     cases hf
     obtain ⟨rfl,hi⟩:=insAt_eq q3
     refine ⟨ρ,ev,S,d,S1,hE,hS,q1,fun v ρ1 H1 E1 hS1 r1=>⟨ρ1,ev,S1,_,S2,hE.mono E1,hS1,q2,fun w ρ2 H2 E2 hS2 r2=>?_⟩⟩
     obtain ⟨b,C,dx,vs,rfl,hb1,hm',hb2,hb3⟩:=rep_obj hS2 hi r2
     have e0:=ext_set hS2 (.ins C dx (putF n v vs)) hb1
     refine ⟨b,C,dx,vs,rfl,hb2,(hc C hm').1,(hc C hm').2,by have:=congrArg List.length hb3.1;simp at this;omega,?_⟩
     have hf2:RepF X.K X.mg ρ2 (upd H2 b (.ins C dx (putF n v vs))) (putD n d fs) (putF n v vs):=putRep ((r1.mono E2).mono e0) ⟨hb3.1,hb3.2.mono e0⟩
     exact k σ ρ2 _ ((E1.trans E2).trans e0) (hS2.set hb1 ⟨C,dx,_,hm',zda,hf2⟩) (((hE.mono E1).mono E2).mono e0)
   · cases hf
theorem fs_item {i:Expr} (ho:FE X o f) (hi:FE X i g) (hv:FE X e h')
   (ha:∀v,assign (.Subscript o i pos') X.env v=(do
     let ov ← holding [v] (eval o X.env)
     let iv ← holding [v,ov] (eval i X.env)
     standAt pos'
     holding [v,ov,iv] (setItem ov iv v)
     release [v,ov,iv] []):=by intro _;rfl) (hs:swapsWithSole [.Subscript o i pos'] e pos.line X.env=pure false:=by rfl) (hw:swappedStores [.Subscript o i pos'] e X.env=pure none:=by rfl)
   (h1:(assignEach [.Subscript o i pos'] X.env).map (·.2)=[assign (.Subscript o i pos') X.env]:=by rfl):FS X (.Assign [.Subscript o i pos'] e pos) (sItem f g h') :=
 zfo (ps_asg hv (pg_sub ho hi set_list ha) hs hw h1) fun σ H D h=>by
   obtain ⟨ρ,ev,S,o,S',hE,hS,hf,k⟩:=h
   obtain ⟨⟨d,S1⟩,q1,hf⟩:=zaz hf
   obtain ⟨⟨y,S2⟩,q2,hf⟩:=zaz hf
   obtain ⟨⟨z,S3⟩,q3,hf⟩:=zaz hf
   cases y with
   | obj a =>
     cases z with
     | int kk =>
       dsimp only at hf
       split at hf
       · rename_i ds hd
         obtain ⟨j,hj,hf⟩:=mapS hf
         cases hf
         refine ⟨ρ,ev,S,d,S1,hE,hS,q1,fun v ρ1 H1 E1 hS1 r1=>⟨ρ1,ev,S1,_,S2,hE.mono E1,hS1,q2,fun w ρ2 H2 E2 hS2 r2=>⟨ρ2,ev,S2,_,S3,(hE.mono E1).mono E2,hS2,q3,fun t ρ3 H3 E3 hS3 r3=>?_⟩⟩⟩
         have r2':=r2.mono E3
         unfold Rep at r2'
         obtain ⟨b,rfl,hb⟩:=r2'
         obtain ⟨vs,h2,h3⟩:=hS3.ob a _ b hd hb
         have e0:=ext_set hS3 (.lst (vs.set j v)) hb
         refine ⟨b,vs,kk,j,rfl,r3,h2,by rw [← h3.length];exact hj,?_⟩
         refine k σ ρ3 _ (((E1.trans E2).trans E3).trans e0) (hS3.set hb ⟨_,zda,?_⟩) ((((hE.mono E1).mono E2).mono E3).mono e0)
         exact (RepL.set ((r1.mono E2).mono E3) j h3).mono e0
       · cases hf
     | _=>cases hf
   | _=>cases hf
section
variable {K:PySem.W.Frag}{mg:Str→Option Value}{ρ1:List Addr}{H1:Hp}{E:Ends}{S':Sto}{o:Out}{i:Nat}
def Ahead (K:PySem.W.Frag) (mg:Str→Option Value) (ρ1:List Addr) (H1:Hp) (i:Nat) (body:C) (o:Out) (S':Sto) (ds:List D) (σ:St) (H:Hp):Prop :=
 ∃ρ ev S,Ext ρ1 H1 ρ H∧StOk K mg ρ H S∧EnvR K mg ρ H ev σ∧loopF i body ds ev S=some (o,S')
theorem turn_ok {d:D}{ds:List D}{x:V}{σ:St}{H:Hp}{ρ:List Addr}{ev:Ev}{S:Sto} (k:Post K mg E S' ρ1 H1 o) (e0:Ext ρ1 H1 ρ H) (hS:StOk K mg ρ H S) (hE:EnvR K mg ρ H ev σ) (r:Rep K mg ρ H d x) (hl:loopF i body (d::ds) ev S=some (o,S')) :
   tC K mg body { E with nx:=Ahead K mg ρ1 H1 i body o S' ds,ct:=Ahead K mg ρ1 H1 i body o S' ds,bk:=E.nx } (σ.set i (some x)) H:=by
 obtain ⟨⟨o1,S3⟩,q,hl⟩:=zaz hl
 refine ⟨ρ,ev.set i (some d),S,o1,S3,hE.set r i,hS,q,?_⟩
 cases o1 with
 | nx e=>exact fun σ' ρ' H' E' hS' hE'=>⟨ρ',e,S3,e0.trans E',hS',hE',hl⟩
 | ct e=>exact fun σ' ρ' H' E' hS' hE'=>⟨ρ',e,S3,e0.trans E',hS',hE',hl⟩
 | bk e=>cases hl;exact fun σ' ρ' H' E' hS' hE'=>k σ' ρ' H' (e0.trans E') hS' hE'
 | rt y=>cases hl;exact fun v ρ' H' E' hS' r'=>k v ρ' H' (e0.trans E') hS' r'
theorem ahead_nil {σ:St}{H:Hp} (k:Post K mg E S' ρ1 H1 o) (h:Ahead K mg ρ1 H1 i body o S' [] σ H):E.nx σ H:=by
 obtain ⟨ρ,ev,S,e0,hS,hE,hl⟩:=h
 cases hl
 exact k σ ρ H e0 hS hE
end
theorem range_ok {K mg}{ρ1:List Addr}{H1:Hp}{E:Ends}{S' S1:Sto}{o:Out}{i n:Nat}{lo:Int}{σ:St}{ev:Ev} (k:Post K mg E S' ρ1 H1 o) (hS1:StOk K mg ρ1 H1 S1) (hE:EnvR K mg ρ1 H1 ev σ) (hf:loopF i body (zeg lo n) ev S1=some (o,S')) :
   ∃W:Nat→Nat→St→Hp→Prop,(∃m,W 0 m σ H1)∧∀j m σ H,W j m σ H →
     ((Itr lo n).stop j H∧E.nx σ H)∨((Itr lo n).go j H∧∃N:St→Hp→Prop,(∀σ' H',N σ' H'→∃m',m' < m∧W (j + 1) m' σ' H')∧∀x H',(Itr lo n).yld j H x H'→gName i x σ H' fun σ2 H2=>tC K mg body { E with nx:=N,ct:=N,bk:=E.nx } σ2 H2):=by
 refine for_range (g:=gName i) (fun j σ' H'=>Ahead K mg ρ1 H1 i body o S' ((zeg lo n).drop j) σ' H') ⟨ρ1,ev,S1,Ext.refl _ _,hS1,hE,hf⟩ ?_ ?_
 · rintro j σ' H' hj ⟨ρ',ev',S2,e0,hS2,hE2,hl2⟩
   have hjl:j < (zeg lo n).length:=by unfold zeg;simpa using hj
   have ed:(zeg lo n).drop j=(zeg lo n)[j]::(zeg lo n).drop (j + 1):=List.drop_eq_getElem_cons hjl
   rw [ed] at hl2
   refine turn_ok k e0 hS2 hE2 ?_ hl2
   have:(zeg lo n)[j]=D.int (lo + (j:Int)):=by simp [zeg]
   rw [this]
   exact rfl
 · intro σ' H' ha
   rw [List.drop_eq_nil_of_le (by unfold zeg;simp)] at ha
   exact ahead_nil k ha
theorem fs_forR (i:Nat) {l:Expr}{px p2 p3:Pos}{sb:List Stmt} (hN:X.N.Nodup) (hm:X.mg "range"=none) (hl:FE X l f) (hb:FSs X sb body) (hp:PassesOwn (model X.prog X.w) X.A X.env X.xe) (hg:Gl X "range":=by rfl) (hc:X.calm=true:=by rfl) (hi:X.N[i]? = some x:=by rfl) (hx:Loc X.env.scope x:=by first | exact Or.inl rfl | exact Or.inr rfl)
   (hf:X.fn x=true∨X.env.scope.names.lookup x=some .local:=by first | exact .inl rfl | exact .inr rfl | assumption) (hst:starEach [l] X.env=[(false,eval l X.env)]:=by exact zbp rfl) (hs:∀v,foldedSetIterable (.Call (.Name "range" p2) [l] [] p3) X.env v=pure v:=by intro _;rfl) :
   FS X (.For (.Name x px) (.Call (.Name "range" p2) [l] [] p3) sb [] pos) (sForR i f body) :=
 zfo (ps_for hp hc (pi_range1 hg hm (zaa hl zac hst) hst) (pg_name hN hi hx hf) hb hs) fun σ H D h=>by
   obtain ⟨ρ,ev,S,o,S',hE,hS,hf,k⟩:=h
   obtain ⟨⟨d,S1⟩,q1,hf⟩:=zaz hf
   cases d with
   | int j =>
     dsimp only at hf
     split at hf
     · rename_i hj
       refine ⟨ρ,ev,S,[.int j],S1,hE,hS,by simp only [aC,aN,q1,Option.bind_some],fun vs ρ1 H1 E1 hS1 r1=>?_⟩
       unfold RepL at r1
       obtain ⟨v,r,rfl,r2,r3⟩:=r1
       unfold RepL at r3
       subst r3
       exact ⟨j,by rw [show v=.int j from r2],hj.1,hj.2,range_ok (k.ext E1) hS1 (hE.mono E1) hf⟩
     · cases hf
   | _=>cases hf
end
open PySem.Spec PyProof.Rows
structure FunD (K:PySem.W.Frag) (x qual:Str) (st:Stmt) (f:Addr) (fd:FuncData) (dV:Value):Prop where
 ex:∃(oc:Value) (od:Option Addr) (kV doc pm:Value) (an:Option Addr) (cdv ct:Value) (osl:Array (Option Value)),
   fd=PySem.W.fnOf x qual (defArgs st) (zaj st) (zab st) dV kV doc pm an cdv ct∧K.lookup f=some ⟨oc,od,.func fd,osl⟩∧PySem.W.codeIn K cdv qual=true
 kp:PySem.W.keepIn K (.ref f)=true
theorem bodyF_len {N n c ds S r} (h:zbe N n c ds S=some r):ds.length=n:=by
 unfold zbe at h
 split at h
 · rename_i hl;exact hl
 · cases h
theorem body_ok {K mg}{c:C}{N:List Str}{n:Nat}{vs:List V}{H:Hp}{Q:VK}{E:XK} (h:spG K mg (zbe N.length n c) vs H Q E):tC K mg c { nx:=fun _ H'=>Q .non H',rt:=Q } (start N vs) H:=by
 obtain ⟨ρ,ds,S,d,S',r,hS,hf,k⟩:=h
 unfold zbe at hf
 split at hf
 · split at hf
   · rename_i e S1 hc
     cases hf
     exact ⟨ρ,_,S,_,_,EnvR.start r,hS,hc,fun σ' ρ' H' E' hS' _=>k .non ρ' H' E' hS' rfl⟩
   · rename_i e S1 hc
     cases hf
     exact ⟨ρ,_,S,_,_,EnvR.start r,hS,hc,k⟩
   · cases hf
 · cases hf
theorem FunD.ok {P:Program}{w:World}{K:PySem.W.Frag}{mg:Str→Option Value}{base:Heap}{x qual:Str}{st:Stmt}{f:Addr}{fd:FuncData}{dV:Value}{N ps:List Str}{k:Nat}{c:C} (F:FunD K x qual st f fd dV) (S:FnScope N ps (zab st))
   (hbody:∀(cdv:Value) (A:Around) (outer:List Env) (s:Shared) (H:Hp) (E:XK),Room k (A.deeper (envOfC qual (zab st) s.heap.objs.size f cdv)) →
     FSs (cxOf CX0 P w K mg base N qual (zab st) f cdv A outer s H E).nox (zaj st) c):FnOk P w K mg base CX0 (k + 1) f fd ps (spG K mg (zbe N.length ps.length c)):=by
 obtain ⟨oc,od,kV,doc,pm,an,cdv,ct,osl,rfl,lk,hcd⟩:=F.ex
 refine fn_of lk hcd S (fun vs H Q E h=>?_) fun A outer s H vs Q E hr hsp=>?_
 · obtain ⟨ρ,ds,S,d,S',r,hS,hf,k⟩:=h
   rw [← r.length];exact bodyF_len hf
 · exact ⟨_,(hbody cdv A outer s H E hr).nox,body_ok hsp⟩
end F
namespace F
open PySem L2 PySem.Spec PyProof.Rows

def clOf (cells:List (Str×Addr)):List (Str×NameKind)→List (Str×Addr)→List (Str×Addr)
 | [],acc=>acc
 | (n,k)::r,acc=>clOf cells r (if k=.free then (match cells.lookup n with | some c=>(n,c)::acc | none=>acc) else acc)
theorem clOf_sub {cells:List (Str×Addr)}:∀{names:List (Str×NameKind)}{acc:List (Str×Addr)},(∀x c,acc.lookup x=some c→cells.lookup x=some c)→∀x c,(clOf cells names acc).lookup x=some c→cells.lookup x=some c
 | [],_,h=>h
 | (n,k)::r,acc,h=>by
   unfold clOf
   refine clOf_sub (names:=r) ?_
   intro x c
   split
   · split
     · rename_i c' e
       intro q
       simp only [List.lookup] at q
       split at q
       · rename_i hx
         cases q
         rw [beq_iff_eq.mp hx];exact e
       · exact h x c q
     · exact h x c
   · exact h x c
theorem clOf_acc {cells:List (Str×Addr)}{x:Str}:∀{names:List (Str×NameKind)}{acc:List (Str×Addr)},(∃c,acc.lookup x=some c)→∃c,(clOf cells names acc).lookup x=some c
 | [],_,h=>h
 | (n,k)::r,acc,h=>by
   unfold clOf
   refine clOf_acc (names:=r) ?_
   split
   · split
     · rename_i c' e
       simp only [List.lookup]
       split
       · exact ⟨_,rfl⟩
       · exact h
     · exact h
   · exact h
theorem clOf_has {cells:List (Str×Addr)}{x:Str} (hx:∃c,cells.lookup x=some c):∀{names:List (Str×NameKind)}{acc:List (Str×Addr)},(x,NameKind.free)∈names→∃c,(clOf cells names acc).lookup x=some c
 | [],_,h=>by cases h
 | (n,k)::r,acc,h=>by
   unfold clOf
   rcases List.mem_cons.mp h with e | h
   · cases e
     refine clOf_acc ?_
     obtain ⟨c,hc⟩:=hx
     rw [if_pos rfl,hc]
     exact ⟨c,by simp [List.lookup]⟩
   · exact clOf_has hx h
theorem closureFor_of {scope:Scope}{env:Env} (h:∀p∈scope.names,p.2=NameKind.free→∃c,env.cells.lookup p.1=some c):closureFor scope env=pure (clOf env.cells scope.names []):=by
 unfold closureFor
 generalize scope.names=names at h
 have key:∀(names:List (Str×NameKind)) (acc:List (Str×Addr)),(∀p∈names,p.2=NameKind.free→∃c,env.cells.lookup p.1=some c) →
     (forIn names acc fun (x:Str×NameKind) (cs:List (Str×Addr))=>(do
       if (x.2 == NameKind.free)=true then do
         let a ← cellOf env x.1
         pure (ForInStep.yield ((x.1,a)::cs))
       else pure (ForInStep.yield cs):Sem (ForInStep (List (Str×Addr)))))=pure (clOf env.cells names acc):=by
   intro names
   induction names with
   | nil=>intro acc _;rfl
   | cons p r ih =>
     intro acc h
     obtain ⟨n,k⟩:=p
     rw [List.forIn_cons]
     unfold clOf
     by_cases hk:k=.free
     · subst hk
       obtain ⟨c,hc⟩:=h (n,.free) List.mem_cons_self rfl
       have hc':env.cells.lookup n=some c:=hc
       simp only [beq_self_eq_true,if_true,cellOf,hc',pure_bind]
       exact ih _ fun q hq=>h q (List.mem_cons_of_mem _ hq)
     · have hb:(k == NameKind.free)=false:=by simpa using hk
       simp only [hb,Bool.false_eq_true,if_false,pure_bind,if_neg hk]
       exact ih _ fun q hq=>h q (List.mem_cons_of_mem _ hq)
 have:=key names [] h
 first
   | (simp only [bind_pure];exact this)
   | (rw [show (fun (x:Str×NameKind) (cs:List (Str×Addr))=>_)=_ from rfl];exact this)
   | exact this

def evAt (ev:Ev) (i:Nat):Option D:=match ev[i]? with
 | some o=>o
 | none=>none
def svAt (σ:L2.St) (i:Nat):Option V:=match σ[i]? with
 | some o=>o
 | none=>none
def compCx (X:Cx) (N':List Str) (scope:Scope) (s₀:Shared) (H₀:Hp) (C:Addr) (ex:List Addr):Cx :=
 { X with N:=N',s₀:=s₀,H₀:=H₀,env:=compEnvC scope (clOf X.env.cells scope.names []) C X.env,outer:=X.stack,ex:=ex,fn:=fun _=>false,pn:=[],xe:=fun _ _=>False }

section
variable {X:Cx}{pins:List (Addr×Obj)}{σ:L2.St}{H:Hp}{s:Shared}{scope:Scope}{x:Str}{N':List Str}{fr:List Nat}
structure CompOk (X:Cx) (scope:Scope) (x:Str) (N':List Str) (fr:List Nat):Prop where
 nd:(x::N').Nodup
 hx:scope.names.lookup x=some .local
 kind:scope.kind=.function
 frn:fr.map (fun j=>X.N[j]?)=N'.map some
 frk:∀y∈N',X.env.kindOf y=some .cell∧(relabel scope X.env).names.lookup y=some .cell
 chk:∀p∈scope.names,p.2≠.cell∧(p.2=.free→X.env.kindOf p.1=some .cell)∧(p.2=.local→scope.names.lookup p.1=some .local)
theorem compOk_mk (nd:(x::N').Nodup) (hx:scope.names.lookup x=some .local) (kind:scope.kind=.function) (frn:fr.map (fun j=>X.N[j]?)=N'.map some)
   (frk:(N'.all fun y=>X.env.kindOf y == some NameKind.cell && (relabel scope X.env).names.lookup y == some NameKind.cell)=true)
   (chk:(scope.names.all fun p=>p.2 != NameKind.cell && (p.2 != NameKind.free || X.env.kindOf p.1 == some NameKind.cell) && (p.2 != NameKind.local || scope.names.lookup p.1 == some NameKind.local))=true):CompOk X scope x N' fr:=by
 refine ⟨nd,hx,kind,frn,fun y hy=>?_,fun p hp=>?_⟩
 · have:=List.all_eq_true.mp frk y hy
   simpa using this
 · have:=List.all_eq_true.mp chk p hp
   simp only [Bool.and_eq_true,Bool.or_eq_true,bne_iff_ne,beq_iff_eq] at this
   exact ⟨this.1.1,fun e=>this.1.2.resolve_left (fun z=>z e),fun e=>this.2.resolve_left (fun z=>z e)⟩
theorem lookup_mem {α:Type}{x:Str}{k:α}:∀{l:List (Str×α)},l.lookup x=some k→(x,k)∈l
 | [],h=>by cases h
 | (n,a)::r,h=>by
   simp only [List.lookup] at h
   split at h
   · rename_i e
     cases h
     rw [beq_iff_eq.mp e];exact List.mem_cons_self
   · exact List.mem_cons_of_mem _ (lookup_mem h)
theorem CompOk.free (c:CompOk X scope x N' fr) {y:Str} (h:(relabel scope X.env).names.lookup y=some .cell∨(relabel scope X.env).names.lookup y=some .free):(y,NameKind.free)∈scope.names:=by
 have go:∀k,(k=NameKind.cell∨k=.free)→(relabel scope X.env).names.lookup y=some k→(y,NameKind.free)∈scope.names:=by
   intro k hk e
   have m:=lookup_mem e
   unfold relabel at m
   obtain ⟨⟨n,k0⟩,hm,e2⟩:=List.mem_map.mp m
   dsimp only at e2
   split at e2
   · rename_i hc
     cases e2
     have:k0=.free:=by
       rw [Bool.and_eq_true,Bool.and_eq_true] at hc
       simpa using hc.1.1
     subst this
     exact hm
   · cases e2
     rcases hk with rfl | rfl
     · exact absurd rfl (c.chk _ hm).1
     · exact hm
 rcases h with h | h
 · exact go _ (.inl rfl) h
 · exact go _ (.inr rfl) h
theorem CompOk.start (c:CompOk X scope x N' fr) (I:Inv X pins σ H s) {fp:List Addr} (hf:∀b∈fp,FpOk X pins H b) (hfl:∀b∈fp,b < s.heap.objs.size) {C:Addr} (hC:s.heap.objs.size≤C) {h1:Heap}{m:Str→Option Value}{t':Nat} (hk:∀b o,s.heap.get? b=some o→h1.get? b=some o) (hn:h1.Ns C m) :
   Inv (compCx X (x::N') scope s H C fp) [] (none::fr.map (svAt σ)) H { s with heap:=h1,toks:=t' }:=by
 have sub:∀y a,(clOf X.env.cells scope.names []).lookup y=some a→X.env.cells.lookup y=some a:=clOf_sub (fun _ _ h=>by cases h)
 have hfs:∀b∈frs X.stack,H b=none:=I.stkFree
 have cellt:∀y a,X.env.cells.lookup y=some a→a < s.heap.objs.size:=fun y a e=>by
   obtain ⟨v,q⟩:=I.cell y a e
   exact q.lt
 refine ⟨⟨I.ok.mod,c.kind,I.ok.glob,I.ok.blt,hC,fun y z a h1 h2=>I.ok.inj y z a (sub _ _ h1) (sub _ _ h2),fun y hy=>?_,fun y a h=>?_,I.ok.hd,I.ok.frames,.inl rfl,fun b hb=>⟨Nat.ne_of_lt (Nat.lt_of_lt_of_le (hfl b hb) hC),fun y a e=>(hf b hb).2.2.2.2.1 y a (sub _ _ e)⟩,I.bs,Nat.le_trans I.ok.bsz I.sz,fun b o e hb=>?_,fun b hb z=>?_,I.stack,hfs⟩,
   rfl,I.bare,Un.kept hk,⟨m,hn,fun i y v e1 e2 e3=>?_⟩,fun y a e=>?_,I.hok.fresh hC,fun y a e=>I.freeC y a (sub _ _ e),fun p hp=>absurd hp (by simp [compCx]),I.hok.kept hk,?_⟩
 · exact clOf_has (I.ok.has y (.inl ((c.chk _ (c.free hy)).2.1 rfl))) (c.free hy)
 · cases h
 · have:=(I.bs b o e).1
   have z:=hf b hb
   rcases z.2.2.2.1 with z | z
   · exact I.ok.noex b o e z
   · have:=(I.ok.bs b o e).1
     exact absurd (Nat.lt_of_lt_of_le (Heap.lt_size this) z) (Nat.lt_irrefl _)
 · rcases List.mem_cons.mp (I.stkSub b z) with e | e
   · exact (hf b hb).2.1 e
   · exact (hf b hb).2.2.1 e
 · cases i with
   | zero=>simp at e2
   | succ i =>
     have e1:N'[i]? = some y:=by simpa [compCx] using e1
     have e2:(fr.map (svAt σ))[i]? = some (some v):=by simpa using e2
     rw [List.getElem?_map] at e2
     cases ej:fr[i]? with
     | none=>rw [ej] at e2;cases e2
     | some j =>
       rw [ej] at e2
       have e2:svAt σ j=some v:=by simpa using e2
       have hv:σ[j]? = some (some v):=by
         unfold svAt at e2
         split at e2
         · rename_i o ho
           rw [ho,e2]
         · cases e2
       have hN:X.N[j]? = some y:=by
         have q:=congrArg (fun l=>l[i]?) c.frn
         simp only [List.getElem?_map,ej,e1,Option.map_some,Option.some.injEq] at q
         exact q
       obtain ⟨k1,k2⟩:=c.frk y (List.mem_of_getElem? e1)
       obtain ⟨mm,_,hl⟩:=I.loc
       obtain ⟨u,r,l⟩:=hl j y v hN hv (.inr (.inl k1))
       refine ⟨u,r,?_⟩
       rcases l with ⟨k,_⟩ | ⟨_,a,ha,hcl⟩
       · rw [k1] at k;cases k
       · refine .inr ⟨.inl k2,a,?_,?_⟩
         · obtain ⟨a',ha'⟩:=clOf_has (cells:=X.env.cells) (names:=scope.names) (acc:=[]) ⟨a,ha⟩ (c.free (.inl k2))
           have:=sub _ _ ha'
           rw [ha] at this;cases this
           exact ha'
         · obtain ⟨o,ho,hd⟩:=hcl
           exact ⟨o,hk _ _ ho,hd⟩
 · obtain ⟨v,o,ho,hd⟩:=I.cell y a (sub _ _ e)
   exact ⟨v,o,hk _ _ ho,hd⟩
 · have:=congrArg List.length c.frn
   simp at this
   simp [compCx,this]
theorem Inv.track {p:Addr}{ys:List V}{its:List Value}{n:Nat} (I:Inv X pins σ H s) (hn:H p=none) (ho:s.heap.get? p=some { cls:=.type "list",data:=.seq its.toArray n }) (r:Vals ys its) (hz:ys.length≤sizeLine)
   (h1:p∈X.ex∨X.s₀.heap.objs.size≤p) (hL:p≠X.env.locals) (h2:∀x c,X.env.cells.lookup x=some c→c≠p) (h3:∀q∈X.pn++pins,q.1≠p):Inv X pins σ (upd H p (.lst ys)) s:=by
 refine I.step (g':=s.gens) (d':=s.drawn) (h':=s.heap) (t':=s.toks) (ch:=[p]) (fun b hb=>?_) (fun b o _ _ _ e _=>e) (fun b o _ _ _ e _=>⟨o.slots,e⟩) (fun b o hc e n=>?_) (fun b o _ e=>⟨o,e⟩) (fun b xs e=>?_) (fun b o u e=>?_) (fun b ps e=>⟨#[],?_⟩) (fun _ hm=>hm) (fun b u e=>?_) I.bare
 · rw [List.mem_singleton.mp hb];exact ⟨h1,hL,h2,h3⟩
 · rw [zcc (fun z=>hc (by simp [z]))];exact n
 · rw [zcc (zcn e hn)];exact e
 · rw [zcc (zcn e hn)];exact e
 · rw [zcc (zcn e hn),e];simp
 · by_cases hb:b=p
   · subst hb
     rw [zda] at e
     cases e
     exact ⟨hz,its,n,r,ho⟩
   · rw [zcc hb] at e
     exact (I.hok b u e).stay (fun _ _ _ q=>q) (fun c q=>by rw [zcc (zcn q hn)];exact q) fun c xs q=>by rw [zcc (zcn q hn)];exact q

theorem sameBut_hok {P:Program}{w:World}{H:Hp}{h h':Heap}{c:Addr} (hok:HOk P w H h) (hs:Heap.SameBut c h h') (hn:H c=none):HOk P w H h':=fun b ob e=>by
 refine (hok b ob e).stay (fun d o hd q=>(hs.2 d ?_).trans q) (fun _ q=>q) fun _ _ q=>q
 rintro rfl
 rcases hd with rfl | hd
 · rw [hn] at e;cases e
 · rw [hn] at hd;cases hd
end
end F
namespace F
open PySem L2 PySem.Spec PyProof.Rows

def IB (i:Int):Prop:=i.natAbs < 2 ^ 4096
instance (i:Int):Decidable (IB i):=inferInstanceAs (Decidable (_ < _))
def zbc:D→D→Option D
 | .int i,.int j=>some (.int (i + j))
 | .str x,.str y=>if x.length + y.length≤sizeLine then some (.str (x++y)) else none
 | .lst a,.lst b=>if a.length + b.length≤sizeLine then some (.lst (a++b)) else none
 | .tup a,.tup b=>if a.length + b.length≤sizeLine then some (.tup (a++b)) else none
 | _,_=>none
def opI (g:Int→Int→Option Int):D→D→Option D
 | .int i,.int j=>(g i j).map D.int
 | _,_=>none
def opIB (g:Int→Int→Bool):D→D→Option D
 | .int i,.int j=>some (.bl (g i j))
 | _,_=>none
def mulI (i j:Int):Option Int:=if (-(2 ^ 64) < i∧i < 2 ^ 64)∨(-(2 ^ 64) < j∧j < 2 ^ 64)∨(IB i∧IB j) then some (i * j) else none
def divI (i j:Int):Option Int:=if 0 < j∧j < 1073741824 then some (i / j) else none
def modI (i j:Int):Option Int:=if 0 < j then some (i % j) else none
def powI (i j:Int):Option Int:=if 0≤j∧j≤1000000∧i.natAbs < 2 ^ 64 then some (i ^ j.toNat) else none
def zdu:D→D→Option D:=opI fun i j=>some (i - j)
def opMul:D→D→Option D:=opI mulI
def zdi:D→D→Option D:=opI divI
def zbb:D→D→Option D:=opI modI
def opPow:D→D→Option D:=opI powI
def opLt:D→D→Option D:=opIB fun i j=>decide (i < j)
def opLe:D→D→Option D:=opIB fun i j=>decide (i≤j)
def opGt:D→D→Option D:=opIB fun i j=>decide (j < i)
def opGe:D→D→Option D:=opIB fun i j=>decide (j≤i)
def isNon:D→Bool
 | .non=>true
 | _=>false
def opIs:D→D→Option D
 | d,.non=>some (.bl (isNon d))
 | .bl a,.bl b=>some (.bl (a == b))
 | _,_=>none
def zer:D→D→Option D
 | d,.non=>some (.bl (!isNon d))
 | .bl a,.bl b=>some (.bl (a != b))
 | _,_=>none
def opIx (S:Sto):D→D→Option D
 | .lst ds,.int i=>atI ds i
 | .tup ds,.int i=>atI ds i
 | .str z,.int i=>if z.length≤sizeLine then (atI z.cps.toList i).map fun c=>.str ⟨#[c]⟩ else none
 | .obj a,.int i=>(match S[a]? with
   | some (.lst ds)=>atI ds i
   | _=>none)
 | _,_=>none

section
variable {X:Cx}{K:PySem.W.Frag}{mg:Str→Option Value}
theorem Rep.refI {ρ H i v} (h:Rep K mg ρ H (.int i) v):v=.int i:=h
theorem Rep.refS {ρ H i v} (h:Rep K mg ρ H (.str i) v):v=.str i:=h
theorem Rep.refT {ρ H ds v} (h:Rep K mg ρ H (.tup ds) v):∃p vs,v=.ref p∧TupAt K ρ H p vs∧RepL K mg ρ H ds vs:=by unfold Rep at h;exact h
theorem Rep.refL {ρ H ds v} (h:Rep K mg ρ H (.lst ds) v):∃p vs,v=.ref p∧LstAt K ρ H p vs∧RepL K mg ρ H ds vs:=by unfold Rep at h;exact h
def rCatL (K:PySem.W.Frag):R2:=fun x y H Q=>∃l b xs zs,x=.ref l∧y=.ref b∧SqL K H l xs∧SqL K H b zs∧xs.length + zs.length≤sizeLine∧∀p,H p=none→Q (.ref p) (upd H p (.lst (xs++zs)))
theorem op_catL:OpR X (binaryOp .Add) (rCatL X.K):=by
 intro pins s σ H x y v u Q I rx ry h
 obtain ⟨l,b,xs,zs,rfl,rfl,hH,hB,hz,q⟩:=h
 cases rx
 cases ry
 obtain ⟨its,r,pl,_⟩:=I.list hH
 obtain ⟨its2,r2,pl2,_⟩:=I.list hB
 obtain ⟨⟨cls,dd,data,sl⟩,ho,hc,n,hd⟩:=pl.isList
 obtain ⟨⟨cls2,dd2,data2,sl2⟩,ho2,hc2,n2,hd2⟩:=pl2.isList
 simp only at hc hd hc2 hd2
 subst hc hd hc2 hd2
 have e:its.toArray++its2.toArray=(its++its2).toArray:=by simp
 have h1:=r.length
 have h2:=r2.length
 refine concat_meets ⟨_,ho,rfl⟩ ⟨_,ho2,rfl⟩ noFill_list_add seq_list_add PySem.F.slot_list_add PySem.F.entry_list_add (PySem.F.args_list_add_2 _ _) (list_addW l b its.toArray its2.toArray n n2 dd dd2 sl sl2 (by simp only [List.size_toArray];omega)) ⟨ho,ho2,?_⟩
 rw [e]
 exact ⟨.ref _,_,I.lnew (t':=s.toks) (r.append r2) (by rw [List.length_append];omega),rfl,q _ I.fresh⟩
def rCatT0 (K:PySem.W.Frag):R2:=fun x y H Q=>∃a b ys,x=.ref a∧y=.ref b∧SqT K H a []∧SqT K H b ys∧Q (.ref b) H
theorem op_catT0:OpR X (binaryOp .Add) (rCatT0 X.K):=by
 intro pins s σ H x y v u Q I rx ry h
 obtain ⟨a,b,ys,rfl,rfl,ha,hb,q⟩:=h
 cases rx
 cases ry
 obtain ⟨its,r1,p1,_⟩:=I.tuple ha
 obtain ⟨its2,r2,p2,_⟩:=I.tuple hb
 cases r1
 obtain ⟨⟨cls,dd,data,sl⟩,ho,hc,n,hd⟩:=id p1
 obtain ⟨⟨cls2,dd2,data2,sl2⟩,ho2,hc2,n2,hd2⟩:=id p2
 simp only at hc hd hc2 hd2
 subst hc hd hc2 hd2
 exact concat_meets ⟨_,ho,rfl⟩ ⟨_,ho2,rfl⟩ noFill_tuple_add seq_tuple_add PySem.F.slot_tuple_add PySem.F.entry_tuple_add (PySem.F.args_tuple_add_2 _ _)
   (tuple_addW0 a b _ _ n n2 dd dd2 sl sl2 rfl) ⟨ho,ho2,⟨.ref b,H,I,rfl,q⟩⟩
theorem snd_add:Snd2 K mg (fun x y H Q=>rI0 (fun i j=>.int (i + j)) x y H Q∨(∃i j,x=.str i∧y=.str j∧i.length + j.length≤sizeLine∧Q (.str (i++j)) H)∨rCatL K x y H Q∨rCatT K x y H Q∨rCatT0 K x y H Q) (fun _=>zbc):=by
 intro ρ H S x y dx dy d Q hS rx ry e k
 replace e:zbc dx dy=some d:=e
 unfold zbc at e
 split at e
 · rename_i i j
   cases e
   rw [rx.refI,ry.refI]
   exact .inl ⟨i,j,rfl,rfl,k _ H (Ext.refl _ _) hS rfl⟩
 · rename_i i j
   split at e
   · rename_i hl
     cases e
     rw [rx.refS,ry.refS]
     exact .inr (.inl ⟨i,j,rfl,rfl,hl,k _ H (Ext.refl _ _) hS rfl⟩)
   · cases e
 · rename_i a b
   split at e
   · rename_i hl
     cases e
     obtain ⟨p,vs,rfl,t1,r1⟩:=rx.refL
     obtain ⟨q,us,rfl,t2,r2⟩:=ry.refL
     refine .inr (.inr (.inl ⟨p,q,vs,us,rfl,rfl,t1.sq,t2.sq,by rw [← r1.length,← r2.length];exact hl,fun z hz=>?_⟩))
     exact k _ _ (zei hS _ hz) (hS.new _ hz) (Rep.lst (s:=hS) hz (r1.append r2))
   · cases e
 · rename_i a b
   split at e
   · rename_i hl
     cases e
     obtain ⟨p,vs,rfl,t1,r1⟩:=rx.refT
     obtain ⟨q,us,rfl,t2,r2⟩:=ry.refT
     cases a with
     | nil =>
       have:=r1.length
       cases vs with
       | nil=>exact .inr (.inr (.inr (.inr ⟨p,q,us,rfl,rfl,t1.sq,t2.sq,k _ H (Ext.refl _ _) hS ry⟩)))
       | cons _ _=>simp at this
     | cons a0 a =>
       refine .inr (.inr (.inr (.inl ⟨p,q,vs,us,rfl,rfl,t1.sq,t2.sq,?_,by rw [← r1.length,← r2.length];exact hl,fun z=>?_,fun z w hw=>?_⟩)))
       · intro z
         have:=r1.length
         subst z
         simp at this
       · have:=r2.length
         subst z
         cases b with
         | nil=>rw [List.append_nil] at k;exact k _ H (Ext.refl _ _) hS rx
         | cons _ _=>simp at this
       · exact k _ _ (zei hS _ hw) (hS.new _ hw) (Rep.tup (s:=hS) hw (r1.append r2))
   · cases e
 · cases e
theorem zbg {a b:Expr}{f g:E}{pos:Pos} (ha:FE X a f) (hb:FE X b g):FE X (.BinOp a .Add b pos) (e2 zbc f g) :=
 fe_bin (op_add.or (op_add_str.or (op_catL.or (op_catT.or op_catT0)))) snd_add ha hb
theorem snd_I {C:Int→Int→Prop}{gV:Int→Int→Int}{g:Int→Int→Option Int} (h:∀i j z,g i j=some z→C i j∧z=gV i j):Snd2 K mg (rI C fun i j=>.int (gV i j)) (fun _=>opI g):=by
 intro ρ H S x y dx dy d Q hS rx ry e k
 replace e:opI g dx dy=some d:=e
 unfold opI at e
 split at e
 · rename_i i j
   obtain ⟨z,e1,e⟩:=mapS e
   cases e
   obtain ⟨hc,rfl⟩:=h i j z e1
   rw [rx.refI,ry.refI]
   exact ⟨i,j,rfl,rfl,hc,k _ H (Ext.refl _ _) hS rfl⟩
 · cases e
theorem snd_I0 {gV:Int→Int→Int}:Snd2 K mg (rI0 fun i j=>.int (gV i j)) (fun _=>opI fun i j=>some (gV i j)):=by
 intro ρ H S x y dx dy d Q hS rx ry e k
 replace e:opI _ dx dy=some d:=e
 unfold opI at e
 split at e
 · rename_i i j
   cases e
   rw [rx.refI,ry.refI]
   exact ⟨i,j,rfl,rfl,k _ H (Ext.refl _ _) hS rfl⟩
 · cases e
theorem snd_IB {g:Int→Int→Bool}:Snd2 K mg (rI0 fun i j=>.bl (g i j)) (fun _=>opIB g):=by
 intro ρ H S x y dx dy d Q hS rx ry e k
 replace e:opIB g dx dy=some d:=e
 unfold opIB at e
 split at e
 · rename_i i j
   cases e
   rw [rx.refI,ry.refI]
   exact ⟨i,j,rfl,rfl,k _ H (Ext.refl _ _) hS rfl⟩
 · cases e
variable {a b:Expr}{f g:E}{pos:Pos}
theorem zem (ha:FE X a f) (hb:FE X b g):FE X (.BinOp a .Sub b pos) (e2 zdu f g):=fe_bin op_sub snd_I0 ha hb
theorem bits_IB {i:Int} (h:IB i):Builtin.Int.intBits i≤2 ^ 20:=by
 unfold IB at h
 unfold Builtin.Int.intBits
 have:i.natAbs.log2 < 4096:=by
   by_cases h0:i.natAbs=0
   · rw [h0];decide
   · exact (Nat.log2_lt h0).mpr h
 split <;> omega
theorem op_mulW:OpR X (binaryOp .Mult) (rI (fun i j=>CMul i j∨(IB i∧IB j)) fun i j=>.int (i * j)) :=
 L2.opI fun i j _ _ _ _ _ hc q=>mul_int q (by
   rcases hc with hc | ⟨h1,h2⟩
   · exact hc.ok
   · exact IntMulOk.of_bits (bits_IB h1) (bits_IB h2))
theorem fe_mul (ha:FE X a f) (hb:FE X b g):FE X (.BinOp a .Mult b pos) (e2 opMul f g):=fe_bin op_mulW (snd_I fun i j z e=>by
 unfold mulI at e
 split at e
 · rename_i h
   cases e
   refine ⟨?_,rfl⟩
   rcases h with h | h | h
   · exact .inl (.inl h)
   · exact .inl (.inr h)
   · exact .inr h
 · cases e) ha hb
theorem zen (ha:FE X a f) (hb:FE X b g):FE X (.BinOp a .FloorDiv b pos) (e2 zdi f g):=fe_bin op_fdiv (snd_I fun i j z e=>by
 unfold divI at e
 split at e
 · rename_i h;cases e;exact ⟨h,rfl⟩
 · cases e) ha hb
theorem zbl (ha:FE X a f) (hb:FE X b g):FE X (.BinOp a .Mod b pos) (e2 zbb f g):=fe_bin op_mod (snd_I fun i j z e=>by
 unfold modI at e
 split at e
 · rename_i h;cases e;exact ⟨h,rfl⟩
 · cases e) ha hb
theorem fe_pow (ha:FE X a f) (hb:FE X b g):FE X (.BinOp a .Pow b pos) (e2 opPow f g):=fe_bin op_pow (snd_I fun i j z e=>by
 unfold powI at e
 split at e
 · rename_i h;cases e;exact ⟨h,rfl⟩
 · cases e) ha hb
theorem fe_le (ha:FE X a f) (hb:FE X b g) (hm:behindInMarks .LtE b=false:=by exact nomark _):FE X (.Compare a [.LtE] [b] pos) (e2 opLe f g):=fe_cmp op_le snd_IB ha hb hm
theorem fb_lt (ha:FE X a f) (hb:FE X b g) (hm:behindInMarks .Lt b=false:=by exact nomark _):FB X (.Compare a [.Lt] [b] pos) (bE (e2 opLt f g)):=fb_cmp op_lt snd_IB ha hb hm
theorem fb_le (ha:FE X a f) (hb:FE X b g) (hm:behindInMarks .LtE b=false:=by exact nomark _):FB X (.Compare a [.LtE] [b] pos) (bE (e2 opLe f g)):=fb_cmp op_le snd_IB ha hb hm
theorem fb_gt (ha:FE X a f) (hb:FE X b g) (hm:behindInMarks .Gt b=false:=by exact nomark _):FB X (.Compare a [.Gt] [b] pos) (bE (e2 opGt f g)):=fb_cmp op_gt snd_IB ha hb hm
theorem fb_ge (ha:FE X a f) (hb:FE X b g) (hm:behindInMarks .GtE b=false:=by exact nomark _):FB X (.Compare a [.GtE] [b] pos) (bE (e2 opGe f g)):=fb_cmp op_ge snd_IB ha hb hm

theorem isNon_of {ρ H d v} (h:Rep K mg ρ H d v):isNon d=decide (v=.non):=by
 cases d with
 | non=>rw [show v=.non from h];rfl
 | bl b=>rw [show v=.bl b from h];rfl
 | int b=>rw [show v=.int b from h];rfl
 | str b=>rw [show v=.str b from h];rfl
 | fn x=>unfold Rep at h;obtain ⟨p,rfl,_⟩:=h;rfl
 | ty b=>rw [show v=.ty b from h];rfl
 | tup x=>obtain ⟨p,_,rfl,_⟩:=h.refT;rfl
 | lst x=>obtain ⟨p,_,rfl,_⟩:=h.refL;rfl
 | obj x=>unfold Rep at h;obtain ⟨p,rfl,_⟩:=h;rfl
 | lam x=>unfold Rep at h;obtain ⟨p,rfl,_⟩:=h;rfl
 | clo x y=>unfold Rep at h;obtain ⟨p,_,rfl,_⟩:=h;rfl
theorem op_isB:OpR X (compareOp .Is) (fun x y H Q=>∃i j,x=.bl i∧y=.bl j∧Q (.bl (i == j)) H):=by
 intro pins s σ H x y v u Q I rx ry h
 obtain ⟨i,j,rfl,rfl,q⟩:=h
 cases rx
 cases ry
 exact is_bool ⟨.bl _,H,I,rfl,q⟩
theorem op_isNotB:OpR X (compareOp .IsNot) (fun x y H Q=>∃i j,x=.bl i∧y=.bl j∧Q (.bl (i != j)) H):=by
 intro pins s σ H x y v u Q I rx ry h
 obtain ⟨i,j,rfl,rfl,q⟩:=h
 cases rx
 cases ry
 exact isnot_bool ⟨.bl _,H,I,rfl,q⟩
theorem snd_is:Snd2 K mg (fun x y H Q=>(y=.non∧Q (.bl (decide (x=.non))) H)∨(∃i j,x=.bl i∧y=.bl j∧Q (.bl (i == j)) H)) (fun _=>opIs):=by
 intro ρ H S x y dx dy d Q hS rx ry e k
 replace e:opIs dx dy=some d:=e
 unfold opIs at e
 split at e
 · cases e
   rw [isNon_of rx] at k
   exact .inl ⟨ry,k _ H (Ext.refl _ _) hS rfl⟩
 · rename_i i j _
   cases e
   exact .inr ⟨_,_,rx,ry,k _ H (Ext.refl _ _) hS rfl⟩
 · cases e
theorem snd_isNot:Snd2 K mg (fun x y H Q=>(y=.non∧Q (.bl (!decide (x=.non))) H)∨(∃i j,x=.bl i∧y=.bl j∧Q (.bl (i != j)) H)) (fun _=>zer):=by
 intro ρ H S x y dx dy d Q hS rx ry e k
 replace e:zer dx dy=some d:=e
 unfold zer at e
 split at e
 · cases e
   rw [isNon_of rx] at k
   exact .inl ⟨ry,k _ H (Ext.refl _ _) hS rfl⟩
 · rename_i i j _
   cases e
   exact .inr ⟨_,_,rx,ry,k _ H (Ext.refl _ _) hS rfl⟩
 · cases e
theorem fe_is (ha:FE X a f) (hb:FE X b g) (hm:behindInMarks .Is b=false:=by exact nomark _):FE X (.Compare a [.Is] [b] pos) (e2 opIs f g):=fe_cmp (op_isN.or op_isB) snd_is ha hb hm
theorem fb_is (ha:FE X a f) (hb:FE X b g) (hm:behindInMarks .Is b=false:=by exact nomark _):FB X (.Compare a [.Is] [b] pos) (bE (e2 opIs f g)):=fb_cmp (op_isN.or op_isB) snd_is ha hb hm
theorem fb_isNot (ha:FE X a f) (hb:FE X b g) (hm:behindInMarks .IsNot b=false:=by exact nomark _):FB X (.Compare a [.IsNot] [b] pos) (bE (e2 zer f g)):=fb_cmp (op_notN.or op_isNotB) snd_isNot ha hb hm

theorem atI_rep {ρ H ds vs i d} (r:RepL K mg ρ H ds vs) (h:atI ds i=some d):∃v,atI vs i=some v∧Rep K mg ρ H d v:=by
 unfold atI at h ⊢
 rw [← r.length]
 obtain ⟨j,h1,h2⟩:=zaz h
 rw [h1]
 exact r.get h2
theorem snd_ix:Snd2 K mg (rIx K) opIx:=by
 intro ρ H S x y dx dy d Q hS rx ry e k
 unfold opIx at e
 split at e
 · rename_i ds i
   obtain ⟨p,vs,rfl,t,r⟩:=rx.refL
   obtain ⟨v,h1,h2⟩:=atI_rep r e
   exact .inl ⟨p,vs,i,v,rfl,ry.refI,t.sq,h1,k _ H (Ext.refl _ _) hS h2⟩
 · rename_i ds i
   obtain ⟨p,vs,rfl,t,r⟩:=rx.refT
   obtain ⟨v,h1,h2⟩:=atI_rep r e
   exact .inr (.inl ⟨p,vs,i,v,rfl,ry.refI,t.sq,h1,k _ H (Ext.refl _ _) hS h2⟩)
 · rename_i z i
   split at e
   · rename_i hz
     obtain ⟨c,h1,e⟩:=mapS e
     cases e
     exact .inr (.inr ⟨z,i,c,rx.refS,ry.refI,hz,h1,k _ H (Ext.refl _ _) hS rfl⟩)
   · cases e
 · rename_i o i
   split at e
   · rename_i ds hd
     unfold Rep at rx
     obtain ⟨p,rfl,hp⟩:=rx
     obtain ⟨vs,h1,r⟩:=hS.ob o _ p hd hp
     obtain ⟨v,h3,h2⟩:=atI_rep r e
     exact .inl ⟨p,vs,i,v,rfl,ry.refI,SqL.of h1,h3,k _ H (Ext.refl _ _) hS h2⟩
   · cases e
 · cases e
theorem zav (ha:FE X a f) (hb:FE X b g) (hs:PlainIx b:=by exact fun _ _=>rfl):FE X (.Subscript a b pos) (e2s opIx f g):=zct (pe_ix ix_seq ha hb hs) fun _ _ _ h=>t2 snd_ix h
end
end F
namespace F
open PySem L2 PySem.Spec PyProof.Rows

def eqL (f:D→D→Option Bool):List D→List D→Option Bool
 | x::xs,y::ys=>(f x y).bind fun c=>(eqL f xs ys).map fun r=>c && r
 | [],[]=>some true
 | _,_=>some false
def flatD:D→Option V
 | .non=>some .non
 | .bl b=>some (.bl b)
 | .int i=>some (.int i)
 | .str x=>some (.str x)
 | _=>none
def eqF (a b:D):Option Bool:=match flatD a,flatD b with
 | some x,some y=>some (eqV x y)
 | _,_=>none
def isSeqD:D→Bool
 | .tup _=>true
 | .lst _=>true
 | _=>false
def eqN:Nat→D→D→Option Bool
 | 0,a,b=>eqF a b
 | n + 1,a,b=>match a,b with
   | .tup xs,.tup ys=>eqL (eqN n) xs ys
   | .lst xs,.lst ys=>if xs.length=ys.length then eqL (eqN n) xs ys else some false
   | .tup _,.lst _=>some false
   | .lst _,.tup _=>some false
   | a,b=>if isSeqD a=true then (if (flatD b).isSome=true then some false else none)
     else if isSeqD b=true then (if (flatD a).isSome=true then some false else none)
     else eqF a b
theorem eqF_some {a b:D}{k:Bool} (h:eqF a b=some k):∃x y,flatD a=some x∧flatD b=some y∧k=eqV x y:=by
 unfold eqF at h
 split at h
 · rename_i x y e1 e2
   exact ⟨x,y,e1,e2,(Option.some.inj h).symm⟩
 · cases h
section
variable {X:Cx}{pins:List (Addr×Obj)}{σ:L2.St}{H:Hp}{s:Shared}{ρ:List Addr}{mg:Str→Option Value}
theorem zeo {K}{d:D}{x v:V} (e:flatD d=some x) (r:Rep K mg ρ H d v):v=x∧flatV x=true:=by
 cases d with
 | non=>cases e;exact ⟨r,rfl⟩
 | bl b=>cases e;exact ⟨r,rfl⟩
 | int i=>cases e;exact ⟨r,rfl⟩
 | str i=>cases e;exact ⟨r,rfl⟩
 | _=>cases e
theorem eqL_len {f:D→D→Option Bool}:∀{xs ys:List D}{k:Bool},eqL f xs ys=some k→xs.length≠ys.length→k=false
 | [],[],_,_,h=>absurd rfl h
 | [],_::_,_,h,_=>by cases h;rfl
 | _::_,[],_,h,_=>by cases h;rfl
 | x::xs,y::ys,k,h,n=>by
   obtain ⟨c,_,h⟩:=zaz h
   obtain ⟨r,h2,h⟩:=mapS h
   have:=eqL_len h2 (fun z=>n (by simp [z]))
   subst this h
   simp
theorem eqL_at {f:D→D→Option Bool}:∀{xs ys:List D}{k:Bool},eqL f xs ys=some k→∀(j:Nat) (x y:D),xs[j]? = some x→ys[j]? = some y→∃c,f x y=some c
 | x::xs,y::ys,k,h,0,_,_,e1,e2=>by
   obtain ⟨c,h1,h⟩:=zaz h
   simp at e1 e2;subst e1 e2
   exact ⟨c,h1⟩
 | x::xs,y::ys,k,h,j + 1,_,_,e1,e2=>by
   obtain ⟨c,h1,h⟩:=zaz h
   obtain ⟨r,h2,h⟩:=mapS h
   exact eqL_at h2 j _ _ (by simpa using e1) (by simpa using e2)
 | [],_,_,_,_,_,_,e1,_=>by simp at e1
 | _::_,[],_,_,_,_,_,_,e2=>by simp at e2
def ansL (f:D→D→Option Bool) (xs ys:List D) (j:Nat):Bool:=match xs[j]?,ys[j]? with
 | some x,some y=>(f x y).getD false
 | _,_=>false
theorem eqL_ans {f:D→D→Option Bool}:∀{xs ys:List D}{k:Bool},eqL f xs ys=some k→xs.length=ys.length→k=(List.range xs.length).all (ansL f xs ys)
 | [],[],_,h,_=>by cases h;rfl
 | x::xs,y::ys,k,h,e=>by
   obtain ⟨c,h1,h⟩:=zaz h
   obtain ⟨r,h2,h⟩:=mapS h
   subst h
   have ih:=eqL_ans h2 (by simpa using e)
   rw [List.length_cons,List.range_succ_eq_map,List.all_cons,List.all_map]
   have e0:ansL f (x::xs) (y::ys) 0=c:=by simp [ansL,h1]
   have e1:((ansL f (x::xs) (y::ys)) ∘ Nat.succ)=ansL f xs ys:=by funext j;simp [ansL]
   rw [e0,e1,← ih]
 | [],_::_,_,_,e=>by simp at e
 | _::_,[],_,_,e=>by simp at e
theorem eqL_ans2 {f:D→D→Option Bool}{xs ys:List D}{k:Bool} (h:eqL f xs ys=some k):k=((List.range (min xs.length ys.length)).all (ansL f xs ys) && xs.length == ys.length):=by
 by_cases e:xs.length=ys.length
 · rw [eqL_ans h e,e];simp
 · rw [eqL_len h e]
   have:(xs.length == ys.length)=false:=by simpa using e
   rw [this];simp
theorem eq_same:∀(n:Nat) {d1 d2:D}{v:V}{k:Bool},Inv X pins σ H s→eqN n d1 d2=some k→Rep X.K mg ρ H d1 v→Rep X.K mg ρ H d2 v→k=true:=by
 intro n
 induction n with
 | zero =>
   intro d1 d2 v k I h r1 r2
   obtain ⟨x,y,e1,e2,rfl⟩:=eqF_some h
   obtain ⟨rfl,f1⟩:=zeo e1 r1
   obtain ⟨rfl,f2⟩:=zeo e2 r2
   cases v <;> first | (cases f1;done) | (simp [eqV];done)
 | succ n ih =>
   intro d1 d2 v k I h r1 r2
   have lst:∀{xs ys:List D}{vs:List V}{k:Bool},eqL (eqN n) xs ys=some k→RepL X.K mg ρ H xs vs→RepL X.K mg ρ H ys vs→k=true:=by
     intro xs
     induction xs with
     | nil =>
       intro ys vs k h q1 q2
       have l1:=q1.length
       have l2:=q2.length
       cases ys with
       | nil=>cases h;rfl
       | cons _ _=>rw [← l1] at l2;simp at l2
     | cons x xs ihx =>
       intro ys vs k h q1 q2
       cases ys with
       | nil =>
         have l1:=q1.length
         have l2:=q2.length
         rw [← l2] at l1;simp at l1
       | cons y ys =>
         obtain ⟨c,h1,h⟩:=zaz h
         obtain ⟨r,h2,h⟩:=mapS h
         unfold RepL at q1 q2
         obtain ⟨v1,r1,rfl,a1,b1⟩:=q1
         obtain ⟨v2,r2,e,a2,b2⟩:=q2
         cases e
         rw [← h,ih I h1 a1 a2,ihx h2 b1 b2]
         rfl
   unfold eqN at h
   split at h
   · rename_i xs ys
     obtain ⟨p,vs,rfl,t1,q1⟩:=r1.refT
     obtain ⟨p',vs',e,t2,q2⟩:=r2.refT
     cases e
     have:=I.tuple_inj t1.sq t2.sq
     subst this
     exact lst h q1 q2
   · rename_i xs ys
     obtain ⟨p,vs,rfl,t1,q1⟩:=r1.refL
     obtain ⟨p',vs',e,t2,q2⟩:=r2.refL
     cases e
     have:=I.list_inj t1.sq t2.sq
     subst this
     rw [if_pos (by rw [q1.length,q2.length])] at h
     exact lst h q1 q2
   · rename_i xs ys
     obtain ⟨p,vs,rfl,t1,q1⟩:=r1.refT
     obtain ⟨p',vs',e,t2,q2⟩:=r2.refL
     cases e
     obtain ⟨_,_,⟨o,e1,c1,_⟩,_⟩:=I.tuple t1.sq
     obtain ⟨_,_,⟨o',_,e2,c2,_⟩,_⟩:=I.list t2.sq
     rw [e1] at e2;cases e2
     rw [c1] at c2
     exact absurd (Value.type.inj c2) (by decide)
   · rename_i xs ys
     obtain ⟨p,vs,rfl,t1,q1⟩:=r1.refL
     obtain ⟨p',vs',e,t2,q2⟩:=r2.refT
     cases e
     obtain ⟨_,_,⟨o,e1,c1,_⟩,_⟩:=I.tuple t2.sq
     obtain ⟨_,_,⟨o',_,e2,c2,_⟩,_⟩:=I.list t1.sq
     rw [e1] at e2;cases e2
     rw [c1] at c2
     exact absurd (Value.type.inj c2) (by decide)
   · split at h
     · rename_i hs
       split at h
       · rename_i hb
         obtain ⟨y,ey⟩:=Option.isSome_iff_exists.mp hb
         obtain ⟨rfl,f2⟩:=zeo ey r2
         cases d1 with
         | tup _=>obtain ⟨p,_,rfl,_⟩:=r1.refT;cases f2
         | lst _=>obtain ⟨p,_,rfl,_⟩:=r1.refL;cases f2
         | _=>cases hs
       · cases h
     · split at h
       · rename_i hs
         split at h
         · rename_i hb
           obtain ⟨y,ey⟩:=Option.isSome_iff_exists.mp hb
           obtain ⟨rfl,f2⟩:=zeo ey r1
           cases d2 with
           | tup _=>obtain ⟨p,_,rfl,_⟩:=r2.refT;cases f2
           | lst _=>obtain ⟨p,_,rfl,_⟩:=r2.refL;cases f2
           | _=>cases hs
         · cases h
       · obtain ⟨x,y,e1,e2,rfl⟩:=eqF_some h
         obtain ⟨rfl,f1⟩:=zeo e1 r1
         obtain ⟨rfl,f2⟩:=zeo e2 r2
         cases v <;> first | (cases f1;done) | (simp [eqV];done)
theorem rc_flat {A:Around}{x y:V}{u w:Value} (ru:RelV x u) (rw':RelV y w) (fx:flatV x=true) (fy:flatV y=true):SeqAt.RcAt A s u w (eqV x y):=by
 cases x with
 | non =>
   cases ru
   cases y with
   | non=>cases rw';exact SeqAt.RcAt.none_none
   | bl b=>cases rw';exact SeqAt.RcAt.none_bool b
   | int b=>obtain ⟨t,rfl⟩:=rw';exact SeqAt.RcAt.none_int b t
   | str b=>obtain ⟨t,rfl⟩:=rw';exact SeqAt.RcAt.none_str b t
   | _=>cases fy
 | bl a =>
   cases ru
   cases y with
   | non=>cases rw';exact SeqAt.RcAt.bool_none a
   | bl b=>cases rw';exact SeqAt.RcAt.bool_bool a b
   | int b=>obtain ⟨t,rfl⟩:=rw';exact SeqAt.RcAt.bool_int a b t
   | str b=>obtain ⟨t,rfl⟩:=rw';exact SeqAt.RcAt.bool_str a b t
   | _=>cases fy
 | int a =>
   obtain ⟨t',rfl⟩:=ru
   cases y with
   | non=>cases rw';exact SeqAt.RcAt.int_none a t'
   | bl b=>cases rw';exact SeqAt.RcAt.int_bool a t' b
   | int b=>obtain ⟨t,rfl⟩:=rw';exact SeqAt.RcAt.int_int a t' b t
   | str b=>obtain ⟨t,rfl⟩:=rw';exact SeqAt.RcAt.int_str a t' b t
   | _=>cases fy
 | str a =>
   obtain ⟨t',rfl⟩:=ru
   cases y with
   | non=>cases rw';exact SeqAt.RcAt.str_none a t'
   | bl b=>cases rw';exact SeqAt.RcAt.str_bool a t' b
   | int b=>obtain ⟨t,rfl⟩:=rw';exact SeqAt.RcAt.str_int a t' b t
   | str b=>obtain ⟨t,rfl⟩:=rw';exact SeqAt.RcAt.str_str a t' b t
   | _=>cases fy
 | _=>cases fx
theorem rcne_flat {A:Around}{x y:V}{u w:Value} (ru:RelV x u) (rw':RelV y w) (fx:flatV x=true) (fy:flatV y=true):SeqAt.RcNeAt A s u w (!eqV x y):=by
 cases x with
 | non =>
   cases ru
   cases y with
   | non=>cases rw';exact SeqAt.RcNeAt.none_none
   | bl b=>cases rw';exact SeqAt.RcNeAt.none_bool b
   | int b=>obtain ⟨t,rfl⟩:=rw';exact SeqAt.RcNeAt.none_int b t
   | str b=>obtain ⟨t,rfl⟩:=rw';exact SeqAt.RcNeAt.none_str b t
   | _=>cases fy
 | bl a =>
   cases ru
   cases y with
   | non=>cases rw';exact SeqAt.RcNeAt.bool_none a
   | bl b=>cases rw';exact SeqAt.RcNeAt.bool_bool a b
   | int b=>obtain ⟨t,rfl⟩:=rw';exact SeqAt.RcNeAt.bool_int a b t
   | str b=>obtain ⟨t,rfl⟩:=rw';exact SeqAt.RcNeAt.bool_str a b t
   | _=>cases fy
 | int a =>
   obtain ⟨t',rfl⟩:=ru
   cases y with
   | non=>cases rw';exact SeqAt.RcNeAt.int_none a t'
   | bl b=>cases rw';exact SeqAt.RcNeAt.int_bool a t' b
   | int b=>obtain ⟨t,rfl⟩:=rw';exact SeqAt.RcNeAt.int_int a t' b t
   | str b=>obtain ⟨t,rfl⟩:=rw';exact SeqAt.RcNeAt.int_str a t' b t
   | _=>cases fy
 | str a =>
   obtain ⟨t',rfl⟩:=ru
   cases y with
   | non=>cases rw';exact SeqAt.RcNeAt.str_none a t'
   | bl b=>cases rw';exact SeqAt.RcNeAt.str_bool a t' b
   | int b=>obtain ⟨t,rfl⟩:=rw';exact SeqAt.RcNeAt.str_int a t' b t
   | str b=>obtain ⟨t,rfl⟩:=rw';exact SeqAt.RcNeAt.str_str a t' b t
   | _=>cases fy
 | _=>cases fx
theorem items_eq {A:Around}{n:Nat}{xs ys:List D}{vs us:List V}{its its2:List Value} (hq:∀{d1 d2:D}{v w:V}{a b:Value}{k:Bool},eqN n d1 d2=some k→Rep X.K mg ρ H d1 v→Rep X.K mg ρ H d2 w→RelV v a→RelV w b→SeqAt.EqAt A s a b k) {k:Bool} (h:eqL (eqN n) xs ys=some k)
   (r1:RepL X.K mg ρ H xs vs) (r2:RepL X.K mg ρ H ys us) (q1:Vals vs its) (q2:Vals us its2) :
   ∀j (h1:j < its.toArray.size) (h2:j < its2.toArray.size),SeqAt.EqAt A s its.toArray[j] its2.toArray[j] (ansL (eqN n) xs ys j):=by
 intro j h1 h2
 have l1:=r1.length
 have l2:=r2.length
 have l3:=q1.length
 have l4:=q2.length
 rw [List.size_toArray] at h1 h2
 have e1:xs[j]? = some xs[j]:=List.getElem?_eq_getElem (by omega)
 have e2:ys[j]? = some ys[j]:=List.getElem?_eq_getElem (by omega)
 obtain ⟨v,ev,rv⟩:=r1.get e1
 obtain ⟨w,ew,rw'⟩:=r2.get e2
 obtain ⟨a,ea,ra⟩:=q1.get ev
 obtain ⟨b,eb,rb⟩:=q2.get ew
 obtain ⟨c,hc⟩:=eqL_at h j _ _ e1 e2
 have z1:its.toArray[j]=a:=by
   rw [List.getElem?_eq_getElem h1] at ea
   simpa using ea
 have z2:its2.toArray[j]=b:=by
   rw [List.getElem?_eq_getElem h2] at eb
   simpa using eb
 have z3:ansL (eqN n) xs ys j=c:=by simp [ansL,e1,e2,hc]
 rw [z1,z2,z3]
 exact hq hc rv rw' ra rb
theorem eq_ok:∀(n:Nat) {A:Around}{d1 d2:D}{v w:V}{a b:Value}{k:Bool},Inv X pins σ H s→A.units + n < cLine→eqN n d1 d2=some k→Rep X.K mg ρ H d1 v→Rep X.K mg ρ H d2 w→RelV v a→RelV w b →
   SeqAt.RcAt A s a b k∧SeqAt.RcNeAt A s a b (!k)∧SeqAt.EqAt A s a b k:=by
 intro n
 induction n with
 | zero =>
   intro A d1 d2 v w a b k I hu h r1 r2 ra rb
   obtain ⟨x,y,e1,e2,rfl⟩:=eqF_some h
   obtain ⟨rfl,f1⟩:=zeo e1 r1
   obtain ⟨rfl,f2⟩:=zeo e2 r2
   exact ⟨rc_flat ra rb f1 f2,rcne_flat ra rb f1 f2,eqAt_V ra rb f1 f2⟩
 | succ n ih =>
   intro A d1 d2 v w a b k I hu h r1 r2 ra rb
   have hs:∀{u:V},Rep X.K mg ρ H d1 u→Rep X.K mg ρ H d2 u→k=true:=fun a b=>eq_same (n + 1) I h a b
   have hin:A.in1.units + n < cLine:=by show A.units + 1 + n < cLine;omega
   have hu0:A.units < cLine:=by omega
   have same:∀{p q:Addr},v=.ref p→w=.ref q→SeqAt.RcAt A s (.ref p) (.ref q) k→SeqAt.EqAt A s a b k:=by
     intro p q e1 e2 rc
     subst e1 e2
     cases ra
     cases rb
     by_cases hpq:p=q
     · subst hpq
       rw [hs r1 r2]
       exact SeqAt.EqAt.same _
     · exact SeqAt.EqAt.of_refs hpq rc
   unfold eqN at h
   split at h
   · rename_i xs ys
     obtain ⟨p,vs,rfl,t1,q1⟩:=r1.refT
     obtain ⟨p',us,rfl,t2,q2⟩:=r2.refT
     cases ra
     cases rb
     obtain ⟨its,z1,pt1,_⟩:=I.tuple t1.sq
     obtain ⟨its2,z2,pt2,_⟩:=I.tuple t2.sq
     have hit:=items_eq (A:=A.in1) (s:=s) (fun e a1 a2 a3 a4=>(ih I hin e a1 a2 a3 a4).2.2) h q1 q2 z1 z2
     have l1:=q1.length
     have l2:=q2.length
     have l3:=z1.length
     have l4:=z2.length
     have ek:k=((List.range (min its.toArray.size its2.toArray.size)).all (ansL (eqN n) xs ys) && its.toArray.size == its2.toArray.size):=by
       rw [List.size_toArray,List.size_toArray,← l3,← l4,← l1,← l2]
       exact eqL_ans2 h
     have rc:=SeqAt.RcAt.tuples (A:=A) (s:=s) pt1 pt2 hu0 hit
     have rn:=SeqAt.RcNeAt.tuples (A:=A) (s:=s) pt1 pt2 hu0 hit
     rw [← ek] at rc
     refine ⟨rc,?_,same rfl rfl rc⟩
     rw [ek]
     exact rn
   · rename_i xs ys
     obtain ⟨p,vs,rfl,t1,q1⟩:=r1.refL
     obtain ⟨p',us,rfl,t2,q2⟩:=r2.refL
     cases ra
     cases rb
     obtain ⟨its,z1,pt1,_⟩:=I.list t1.sq
     obtain ⟨its2,z2,pt2,_⟩:=I.list t2.sq
     have l1:=q1.length
     have l2:=q2.length
     have l3:=z1.length
     have l4:=z2.length
     split at h
     · rename_i hl
       have hit:=items_eq (A:=A.in1) (s:=s) (fun e a1 a2 a3 a4=>(ih I hin e a1 a2 a3 a4).2.2) h q1 q2 z1 z2
       have hsz:its.toArray.size=its2.toArray.size:=by rw [List.size_toArray,List.size_toArray];omega
       have ek:k=(List.range its.toArray.size).all (ansL (eqN n) xs ys):=by
         rw [List.size_toArray,← l3,← l1]
         exact eqL_ans h hl
       have rc:=SeqAt.RcAt.lists (A:=A) (s:=s) pt1.isList pt2.isList hsz hu0 hit
       have rn:=SeqAt.RcNeAt.lists (A:=A) (s:=s) pt1.isList pt2.isList hsz hu0 hit
       rw [← ek] at rc
       refine ⟨rc,?_,same rfl rfl rc⟩
       rw [ek]
       exact rn
     · rename_i hl
       cases h
       have hsz:(its.toArray.size != its2.toArray.size)=true:=by rw [List.size_toArray,List.size_toArray];simp;omega
       have rc:=SeqAt.RcAt.lists_lengths (A:=A) (s:=s) pt1.isList pt2.isList hsz hu0
       have rn:=SeqAt.RcNeAt.lists_lengths (A:=A) (s:=s) pt1.isList pt2.isList hsz hu0
       exact ⟨rc,rn,same rfl rfl rc⟩
   · rename_i xs ys
     cases h
     obtain ⟨p,vs,rfl,t1,q1⟩:=r1.refT
     obtain ⟨p',us,rfl,t2,q2⟩:=r2.refL
     cases ra
     cases rb
     obtain ⟨its,z1,pt1,_⟩:=I.tuple t1.sq
     obtain ⟨its2,z2,pt2,_⟩:=I.list t2.sq
     exact ⟨SeqAt.RcAt.tuple_list pt1 pt2.isList hu0,SeqAt.RcNeAt.tuple_list pt1 pt2.isList hu0,SeqAt.EqAt.tuple_list pt1 pt2.isList hu0⟩
   · rename_i xs ys
     cases h
     obtain ⟨p,vs,rfl,t1,q1⟩:=r1.refL
     obtain ⟨p',us,rfl,t2,q2⟩:=r2.refT
     cases ra
     cases rb
     obtain ⟨its,z1,pt1,_⟩:=I.list t1.sq
     obtain ⟨its2,z2,pt2,_⟩:=I.tuple t2.sq
     exact ⟨SeqAt.RcAt.list_tuple pt1.isList pt2 hu0,SeqAt.RcNeAt.list_tuple pt1.isList pt2 hu0,SeqAt.EqAt.list_tuple pt1.isList pt2 hu0⟩
   · split at h
     · rename_i hsq
       split at h
       · rename_i hb
         cases h
         obtain ⟨y,ey⟩:=Option.isSome_iff_exists.mp hb
         obtain ⟨rfl,f2⟩:=zeo ey r2
         cases d1 with
         | tup _ =>
           obtain ⟨p,vs,rfl,t1,q1⟩:=r1.refT
           cases ra
           obtain ⟨its,z1,pt,_⟩:=I.tuple t1.sq
           cases w with
           | non=>cases rb;exact ⟨SeqAt.RcAt.tuple_none pt hu0,SeqAt.RcNeAt.tuple_none pt hu0,SeqAt.EqAt.tuple_none pt hu0⟩
           | bl c=>cases rb;exact ⟨SeqAt.RcAt.tuple_bool c pt hu0,SeqAt.RcNeAt.tuple_bool c pt hu0,SeqAt.EqAt.tuple_bool c pt hu0⟩
           | int c=>obtain ⟨t,rfl⟩:=rb;exact ⟨SeqAt.RcAt.tuple_int c t pt hu0,SeqAt.RcNeAt.tuple_int c t pt hu0,SeqAt.EqAt.tuple_int c t pt hu0⟩
           | str c=>obtain ⟨t,rfl⟩:=rb;exact ⟨SeqAt.RcAt.tuple_str c t pt hu0,SeqAt.RcNeAt.tuple_str c t pt hu0,SeqAt.EqAt.tuple_str c t pt hu0⟩
           | _=>cases f2
         | lst _ =>
           obtain ⟨p,vs,rfl,t1,q1⟩:=r1.refL
           cases ra
           obtain ⟨its,z1,pl,_⟩:=I.list t1.sq
           have pt:=pl.isList
           cases w with
           | non=>cases rb;exact ⟨SeqAt.RcAt.list_none pt hu0,SeqAt.RcNeAt.list_none pt hu0,SeqAt.EqAt.list_none pt hu0⟩
           | bl c=>cases rb;exact ⟨SeqAt.RcAt.list_bool c pt hu0,SeqAt.RcNeAt.list_bool c pt hu0,SeqAt.EqAt.list_bool c pt hu0⟩
           | int c=>obtain ⟨t,rfl⟩:=rb;exact ⟨SeqAt.RcAt.list_int c t pt hu0,SeqAt.RcNeAt.list_int c t pt hu0,SeqAt.EqAt.list_int c t pt hu0⟩
           | str c=>obtain ⟨t,rfl⟩:=rb;exact ⟨SeqAt.RcAt.list_str c t pt hu0,SeqAt.RcNeAt.list_str c t pt hu0,SeqAt.EqAt.list_str c t pt hu0⟩
           | _=>cases f2
         | _=>cases hsq
       · cases h
     · split at h
       · rename_i hsq
         split at h
         · rename_i hb
           cases h
           obtain ⟨y,ey⟩:=Option.isSome_iff_exists.mp hb
           obtain ⟨rfl,f2⟩:=zeo ey r1
           cases d2 with
           | tup _ =>
             obtain ⟨p,vs,rfl,t1,q1⟩:=r2.refT
             cases rb
             obtain ⟨its,z1,pt,_⟩:=I.tuple t1.sq
             cases v with
             | non=>cases ra;exact ⟨SeqAt.RcAt.none_tuple pt hu0,SeqAt.RcNeAt.none_tuple pt hu0,SeqAt.EqAt.none_tuple pt hu0⟩
             | bl c=>cases ra;exact ⟨SeqAt.RcAt.bool_tuple c pt hu0,SeqAt.RcNeAt.bool_tuple c pt hu0,SeqAt.EqAt.bool_tuple c pt hu0⟩
             | int c=>obtain ⟨t,rfl⟩:=ra;exact ⟨SeqAt.RcAt.int_tuple c t pt hu0,SeqAt.RcNeAt.int_tuple c t pt hu0,SeqAt.EqAt.int_tuple c t pt hu0⟩
             | str c=>obtain ⟨t,rfl⟩:=ra;exact ⟨SeqAt.RcAt.str_tuple c t pt hu0,SeqAt.RcNeAt.str_tuple c t pt hu0,SeqAt.EqAt.str_tuple c t pt hu0⟩
             | _=>cases f2
           | lst _ =>
             obtain ⟨p,vs,rfl,t1,q1⟩:=r2.refL
             cases rb
             obtain ⟨its,z1,pl,_⟩:=I.list t1.sq
             have pt:=pl.isList
             cases v with
             | non=>cases ra;exact ⟨SeqAt.RcAt.none_list pt hu0,SeqAt.RcNeAt.none_list pt hu0,SeqAt.EqAt.none_list pt hu0⟩
             | bl c=>cases ra;exact ⟨SeqAt.RcAt.bool_list c pt hu0,SeqAt.RcNeAt.bool_list c pt hu0,SeqAt.EqAt.bool_list c pt hu0⟩
             | int c=>obtain ⟨t,rfl⟩:=ra;exact ⟨SeqAt.RcAt.int_list c t pt hu0,SeqAt.RcNeAt.int_list c t pt hu0,SeqAt.EqAt.int_list c t pt hu0⟩
             | str c=>obtain ⟨t,rfl⟩:=ra;exact ⟨SeqAt.RcAt.str_list c t pt hu0,SeqAt.RcNeAt.str_list c t pt hu0,SeqAt.EqAt.str_list c t pt hu0⟩
             | _=>cases f2
           | _=>cases hsq
         · cases h
       · obtain ⟨x,y,e1,e2,rfl⟩:=eqF_some h
         obtain ⟨rfl,f1⟩:=zeo e1 r1
         obtain ⟨rfl,f2⟩:=zeo e2 r2
         exact ⟨rc_flat ra rb f1 f2,rcne_flat ra rb f1 f2,eqAt_V ra rb f1 f2⟩
end
def opEq (a b:D):Option D:=(eqN 150 a b).map D.bl
def opNe (a b:D):Option D:=(eqN 150 a b).map fun k=>D.bl !k
section
variable {X:Cx}{a b:Expr}{f g:E}{pos:Pos}
def rEqD (K:PySem.W.Frag) (mg:Str→Option Value) (neg:Bool):R2:=fun x y H Q=>∃(ρ:List Addr) (d1 d2:D) (k:Bool),Rep K mg ρ H d1 x∧Rep K mg ρ H d2 y∧eqN 150 d1 d2=some k∧Q (.bl (if neg then !k else k)) H
theorem op_eqD (hu:X.A.units + 150 < cLine):OpR X (compareOp .Eq) (rEqD X.K X.mg false):=by
 intro pins s σ H x y v u Q I rx ry h
 obtain ⟨ρ,d1,d2,k,h1,h2,h3,q⟩:=h
 exact (eq_ok 150 I hu h3 h1 h2 rx ry).1 _ _ _ _ ⟨.bl k,H,I,rfl,q⟩
theorem op_neD (hu:X.A.units + 150 < cLine):OpR X (compareOp .NotEq) (rEqD X.K X.mg true):=by
 intro pins s σ H x y v u Q I rx ry h
 obtain ⟨ρ,d1,d2,k,h1,h2,h3,q⟩:=h
 exact (eq_ok 150 I hu h3 h1 h2 rx ry).2.1 _ _ _ _ ⟨.bl (!k),H,I,rfl,q⟩
theorem snd_eqD {K mg}:Snd2 K mg (rEqD K mg false) (fun _=>opEq):=by
 intro ρ H S x y dx dy d Q hS rx ry e k
 obtain ⟨c,e1,e⟩:=mapS e
 subst e
 exact ⟨ρ,dx,dy,c,rx,ry,e1,k _ H (Ext.refl _ _) hS rfl⟩
theorem snd_neD {K mg}:Snd2 K mg (rEqD K mg true) (fun _=>opNe):=by
 intro ρ H S x y dx dy d Q hS rx ry e k
 obtain ⟨c,e1,e⟩:=mapS e
 subst e
 exact ⟨ρ,dx,dy,c,rx,ry,e1,k _ H (Ext.refl _ _) hS rfl⟩
theorem fe_eq {k:Nat} (hr:Room k X.A) (ha:FE X a f) (hb:FE X b g) (hm:behindInMarks .Eq b=false:=by exact nomark _):FE X (.Compare a [.Eq] [b] pos) (e2 opEq f g):=fe_cmp (op_eqD (by have:=hr.un;omega)) snd_eqD ha hb hm
theorem zfl {k:Nat} (hr:Room k X.A) (ha:FE X a f) (hb:FE X b g) (hm:behindInMarks .Eq b=false:=by exact nomark _):FB X (.Compare a [.Eq] [b] pos) (bE (e2 opEq f g)):=fb_cmp (op_eqD (by have:=hr.un;omega)) snd_eqD ha hb hm
theorem fb_ne {k:Nat} (hr:Room k X.A) (ha:FE X a f) (hb:FE X b g) (hm:behindInMarks .NotEq b=false:=by exact nomark _):FB X (.Compare a [.NotEq] [b] pos) (bE (e2 opNe f g)):=fb_cmp (op_neD (by have:=hr.un;omega)) snd_neD ha hb hm
end
end F
namespace F
open PySem L2 PySem.Spec PyProof.Rows

def lenD (S:Sto):List D→Option D
 | [.lst ds]=>some (.int ds.length)
 | [.tup ds]=>some (.int ds.length)
 | [.str z]=>if z.length≤sizeLine then some (.int z.length) else none
 | [.obj a]=>(match S[a]? with
   | some (.lst ds)=>some (.int ds.length)
   | _=>none)
 | _=>none
def absD (_:Sto):List D→Option D
 | [.int i]=>some (.int (if i < 0 then -i else i))
 | _=>none
def maxD (_:Sto):List D→Option D
 | [.int i,.int j]=>some (.int (if j > i then j else i))
 | _=>none
section
variable {X:Cx}{K:PySem.W.Frag}{mg:Str→Option Value}
theorem one {ρ H d xs} (r:RepL K mg ρ H [d] xs):∃v,xs=[v]∧Rep K mg ρ H d v:=by
 unfold RepL at r
 obtain ⟨v,t,rfl,h1,h2⟩:=r
 unfold RepL at h2
 subst h2
 exact ⟨v,rfl,h1⟩
theorem two {ρ H d e xs} (r:RepL K mg ρ H [d,e] xs):∃v w,xs=[v,w]∧Rep K mg ρ H d v∧Rep K mg ρ H e w:=by
 unfold RepL at r
 obtain ⟨v,t,rfl,h1,h2⟩:=r
 obtain ⟨w,rfl,h3⟩:=one h2
 exact ⟨v,w,rfl,h1,h3⟩
theorem snd_len:SndA K mg (fun xs H Q=>(∃p ys,xs=[.ref p]∧(SqL K H p ys∨SqT K H p ys)∧Q (.int ys.length) H)∨(∃z,xs=[.str z]∧z.length≤sizeLine∧Q (.int z.length) H)) lenD:=by
 intro ρ H S xs ds d Q hS r e k
 unfold lenD at e
 split at e
 · cases e
   replace r:=one r
   obtain ⟨v,rfl,r⟩:=r
   obtain ⟨p,vs,rfl,t,r⟩:=r.refL
   exact .inl ⟨p,vs,rfl,.inl t.sq,by rw [← r.length];exact k _ H (Ext.refl _ _) hS rfl⟩
 · cases e
   replace r:=one r
   obtain ⟨v,rfl,r⟩:=r
   obtain ⟨p,vs,rfl,t,r⟩:=r.refT
   exact .inl ⟨p,vs,rfl,.inr t.sq,by rw [← r.length];exact k _ H (Ext.refl _ _) hS rfl⟩
 · split at e
   · rename_i hz
     cases e
     replace r:=one r
     obtain ⟨v,rfl,r⟩:=r
     rw [r.refS]
     exact .inr ⟨_,rfl,hz,k _ H (Ext.refl _ _) hS rfl⟩
   · cases e
 · split at e
   · rename_i ds hd
     cases e
     replace r:=one r
     obtain ⟨v,rfl,r⟩:=r
     unfold Rep at r
     obtain ⟨p,rfl,hp⟩:=r
     obtain ⟨vs,h1,r⟩:=hS.ob _ _ p hd hp
     exact .inl ⟨p,vs,rfl,.inl (SqL.of h1),by rw [← r.length];exact k _ H (Ext.refl _ _) hS rfl⟩
   · cases e
 · cases e
variable {e:Expr}{es:List Expr}{p pos:Pos}{g:As}
theorem fe_len (hm:X.mg "len"=none) (ha:FA X [e] g) (hg:Gl X "len":=by rfl) (he:starEach [e] X.env=(false,eval e X.env)::starEach [] X.env:=by exact zbp rfl) (hpl:(backTo pos (starEach [] X.env)).any (·.1)=false:=by exact zck rfl):FE X (.Call (.Name "len" p) [e] [] pos) (eA lenD g) :=
 fe_blt (call_len_seq.or call_len_str) snd_len hm PySem.boot_len ha hg (by decide) (by decide) he hpl
theorem snd_abs:SndA K mg (fun xs H Q=>∃i,xs=[.int i]∧Q (.int (if i < 0 then -i else i)) H) absD:=by
 intro ρ H S xs ds d Q hS r e k
 unfold absD at e
 split at e
 · cases e
   replace r:=one r
   obtain ⟨v,rfl,r⟩:=r
   rw [r.refI]
   exact ⟨_,rfl,k _ H (Ext.refl _ _) hS rfl⟩
 · cases e
theorem fe_abs (hm:X.mg "abs"=none) (ha:FA X [e] g) (hg:Gl X "abs":=by rfl) (he:starEach [e] X.env=(false,eval e X.env)::starEach [] X.env:=by exact zbp rfl) (hpl:(backTo pos (starEach [] X.env)).any (·.1)=false:=by exact zck rfl):FE X (.Call (.Name "abs" p) [e] [] pos) (eA absD g) :=
 fe_blt call_abs snd_abs hm (by with_unfolding_all rfl) ha hg (by decide) (by decide) he hpl
theorem snd_max:SndA K mg (fun xs H Q=>∃i j,xs=[.int i,.int j]∧Q (.int (if j > i then j else i)) H) maxD:=by
 intro ρ H S xs ds d Q hS r e k
 unfold maxD at e
 split at e
 · cases e
   replace r:=two r
   obtain ⟨v,w,rfl,r1,r2⟩:=r
   rw [r1.refI,r2.refI]
   exact ⟨_,_,rfl,k _ H (Ext.refl _ _) hS rfl⟩
 · cases e
theorem fe_max (hm:X.mg "max"=none) (ha:FA X (e::es) g) (hc:X.calm=true:=by rfl) (hg:Gl X "max":=by rfl) (he:starEach (e::es) X.env=(false,eval e X.env)::starEach es X.env:=by exact zbp rfl) (hpl:(backTo pos (starEach es X.env)).any (·.1)=false:=by exact zck rfl):FE X (.Call (.Name "max" p) (e::es) [] pos) (eA maxD g) :=
 fe_blt (call_max2 hc) snd_max hm (by with_unfolding_all rfl) ha hg (by decide) (by decide) he hpl
theorem fe_bty {x:Str} (n:String) (hm:X.mg x=none) (hv:bootBuiltins x=some (.type n)) (hg:Gl X x:=by rfl) (hn:x≠"__name__":=by decide) (hd:(x == ("__debug__":Str))=false:=by decide):FE X (.Name x pos) (eK (.ty n)) :=
 fe_const (pe_bltn (v:=.ty n) hg hm hv rfl hn hd) fun _ _=>rfl
def cutD (xs:List D) (lo hi:Option Int):List D:=(xs.drop (HT.sIx xs.length 0 lo)).take (HT.sIx xs.length xs.length hi - HT.sIx xs.length 0 lo)
def opSl:D→Option Int→Option Int→Option D
 | .lst ds,lo,hi=>some (.lst (cutD ds lo hi))
 | .tup ds,lo,hi=>if HT.sIx ds.length 0 lo=0∧HT.sIx ds.length ds.length hi=ds.length then none else some (.tup (cutD ds lo hi))
 | _,_,_=>none
abbrev Pt:=Ev→Sto→Option (Option Int×Sto)
def pN:Pt:=fun _ S=>some (none,S)
def pE (f:E):Pt:=fun ev S=>(f ev S).bind fun p=>match p.1 with
 | .int i=>some (some i,p.2)
 | _=>none
def tPt (K:PySem.W.Frag) (mg:Str→Option Value) (f:Pt):TO:=fun σ H Q=>∃ρ ev S o S',EnvR K mg ρ H ev σ∧StOk K mg ρ H S∧f ev S=some (o,S')∧∀ρ' H',Ext ρ H ρ' H'→StOk K mg ρ' H' S'→Q o H'
def FPt (X:Cx) (e:Option Expr) (f:Pt):Prop:=PO X e (tPt X.K X.mg f)
theorem po_mono {e:Option Expr}{t t':TO} (h:PO X e t) (m:∀σ H Q,t' σ H Q→t σ H Q):PO X e t':=fun pins s σ H Q I q=>h pins s σ H Q I (m _ _ _ q)
theorem fp_none:FPt X none pN:=po_mono po_none fun σ H Q h=>by
 obtain ⟨ρ,ev,S,o,S',hE,hS,hf,k⟩:=h
 cases hf
 exact k ρ H (Ext.refl _ _) hS
theorem fp_some {f:E} (h:FE X e f):FPt X (some e) (pE f):=po_mono (po_some h) fun σ H Q h=>by
 obtain ⟨ρ,ev,S,o,S',hE,hS,hf,k⟩:=h
 obtain ⟨⟨x,S1⟩,q1,hf⟩:=zaz hf
 cases x with
 | int i =>
   cases hf
   exact ⟨ρ,ev,S,_,_,hE,hS,q1,fun v ρ1 H1 E1 hS1 r1=>⟨i,r1,k ρ1 H1 E1 hS1⟩⟩
 | _=>cases hf
theorem cut_rep {ρ H ds vs} (r:RepL K mg ρ H ds vs) (lo hi:Option Int):RepL K mg ρ H (cutD ds lo hi) (cutV vs lo hi):=by
 unfold cutD cutV
 rw [r.length]
 exact (r.drop _).take _
def opRev:D→Option D
 | .lst ds=>some (.lst ds.reverse)
 | _=>none
theorem pe_rev {a:Expr}{te:TE}{j:Nat}{p0 p1 p2:Pos} (he:PE X a te):PE X (.Subscript a (.Slice none none (some (.UnaryOp .USub (.Constant (.int 1) j p1) p0)) p2) pos)
   (fun σ H Q=>te σ H fun x H1=>∃b xs,x=.ref b∧SqL X.K H1 b xs∧∀p,H1 p=none→Q (.ref p) (upd H1 p (.lst xs.reverse))):=by
 intro pins s σ H Q I h
 refine Subscript_ (thn (he pins s σ H _ I h) fun v s1 ⟨x,H1,I1,r1,b,xs,e1,hx,q1⟩=>?_)
 subst e1
 cases r1
 refine wpAny_Slice ?_
 rw [evalPart_none]
 refine wpAny_pure (wpAny_pure ?_)
 rw [evalPart_some]
 refine thn ((pe_un un_neg pe_int:PE X (.UnaryOp .USub (.Constant (.int 1) j p1) p0) _) pins s1 σ H1 (fun v H'=>v=.int (-1)∧H'=H1) I1 ⟨1,rfl,rfl,rfl⟩) fun vs s2 ⟨x2,H2,I2,r2,e2,e3⟩=>?_
 subst e2 e3
 obtain ⟨tk,rfl⟩:=r2
 have I4:Inv X pins σ H2 { s2 with heap:=s2.heap.push { cls:=.type "slice",data:=.fields #[.none,.none,.int (-1) tk] } }:=I2.kept (t':=s2.toks) fun b ob q=>Heap.get?_push_of_some _ q
 obtain ⟨its,r,ht,hz⟩:=I4.list hx
 have hlen:=r.length
 show wpAny (model X.prog X.w) X.A (subscriptTail a (.Slice none none (some (.UnaryOp .USub (.Constant (.int 1) j p1) p0)) p2) (.ref b) (.ref s2.heap.objs.size)) (EP X pins σ Q) X.xe { s2 with heap:=s2.heap.push { cls:=.type "slice",data:=.fields #[.none,.none,.int (-1) tk] } }
 refine tail_any (ops:=[.ref b,.ref s2.heap.objs.size]) ht.isList.typeIs slot_list_getitem.lookup ?_ (by with_unfolding_all rfl)
 refine wpAny_getItem_list_slice (st:=some (-1)) ht.isList (Heap.IsSliceOf.new ..) .none .none (.int (-1) tk) (by decide) ?_ (by rw [List.size_toArray];omega)
 rw [PySem.W.krv_pick]
 have er:(its.toArray.toList.reverse).toArray=its.reverse.toArray:=by simp
 rw [er]
 refine ⟨.ref _,_,I4.laid (t':=s2.toks) (o:=.lst xs.reverse) (fun b ob q=>Heap.get?_push_of_some _ q) (Nat.le_refl _) ?_,rfl,q1 _ (I4.hok.fresh (Nat.le_refl _))⟩
 refine ⟨by rw [List.length_reverse];exact hz,its.reverse,0,?_,Heap.get?_push_size _ rfl⟩
 have rev:∀{xs:List V}{us:List Value},Vals xs us→Vals xs.reverse us.reverse:=by
   intro xs us h
   induction h with
   | nil=>exact .nil
   | cons r _ ih=>rw [List.reverse_cons,List.reverse_cons];exact ih.append (.cons r .nil)
 exact rev r
theorem fe_rev {a:Expr}{f:E}{j:Nat}{p0 p1 p2:Pos} (ha:FE X a f):FE X (.Subscript a (.Slice none none (some (.UnaryOp .USub (.Constant (.int 1) j p1) p0)) p2) pos) (e1 opRev f) :=
 zct (pe_rev ha) fun σ H Q h=>by
   obtain ⟨ρ,ev,S,d,S',hE,hS,hf,k⟩:=h
   obtain ⟨⟨x,S1⟩,q1,hf⟩:=zaz hf
   obtain ⟨z,q4,hf⟩:=mapS hf
   cases hf
   refine ⟨ρ,ev,S,x,_,hE,hS,q1,fun v ρ1 H1 E1 hS1 r1=>?_⟩
   cases x with
   | lst ds =>
     cases q4
     obtain ⟨p,vs,rfl,t,r⟩:=r1.refL
     exact ⟨p,vs,rfl,t.sq,fun b hb=>k _ _ _ (E1.trans (zei hS1 _ hb)) (hS1.new _ hb) (Rep.lst (s:=hS1) hb r.reverse)⟩
   | _=>cases q4
def strsOf:List D→Option (List Str)
 | []=>some []
 | .str x::r=>(strsOf r).map fun l=>x::l
 | _=>none
theorem fs_append {o:Expr}{f h:E}{apos spos:Pos} (ho:FE X o f) (hv:FE X e h)
   (hbase:attributeBase o "append" X.env (eval o X.env)=eval o X.env:=by rfl)
   (hfew:((backTo pos (starEach [e] X.env)).all (fun x=>!x.1) && (backToKw pos (keywordEach [] X.env)).all (fun x=>x.1.isSome)
     && decide ([e].length + ([]:List Keyword).length + (if ([]:List Keyword).isEmpty then 0 else 1) < 30))=true:=by rfl)
   (hline:(apos.endLine == pos.line)=true:=by rfl) (hs:starEach [e] X.env=(false,eval e X.env)::starEach [] X.env:=by exact zbp rfl) (hplain:(backTo pos (starEach [] X.env)).any (·.1)=false:=by exact zck rfl)
   (hsw:swapsWith (.Call (.Attribute o "append" apos) [e] [] pos) none spos.line X.env=pure false:=by rfl) :
   FS X (.Expr (.Call (.Attribute o "append" apos) [e] [] pos) spos) (zeh f h) :=
 zfo (ps_expr (pe_bm PySem.F.plainAttrs_list PySem.F.slot_list_append PySem.F.type_list_append mt_append ho (zaa hv zac hs) hbase hfew hline hs hplain) hsw) fun σ H D h=>by
   obtain ⟨ρ,ev,S,o,S',hE,hS,hf,k⟩:=h
   obtain ⟨⟨x,S1⟩,q1,hf⟩:=zaz hf
   cases x with
   | obj a =>
     dsimp only at hf
     split at hf
     · rename_i ds0 hd0
       obtain ⟨⟨y,S2⟩,q2,hf⟩:=zaz hf
       dsimp only at hf
       split at hf
       · rename_i ds hd
         split at hf
         · rename_i hl
           cases hf
           refine ⟨ρ,ev,S,_,S1,hE,hS,q1,fun v ρ1 H1 E1 hS1 r1=>?_⟩
           have r1':=r1
           unfold Rep at r1'
           obtain ⟨p,rfl,hp⟩:=r1'
           obtain ⟨us0,hu0,_⟩:=hS1.ob a _ p hd0 hp
           refine ⟨.inl ⟨rfl,_,SqL.of hu0⟩,ρ1,ev,S1,[y],S2,hE.mono E1,hS1,by simp only [aC,aN,q2,Option.bind_some],fun vs ρ2 H2 E2 hS2 r2=>?_⟩
           obtain ⟨w,rfl,r3⟩:=one r2
           have hp2:=E2.pre _ _ hp
           obtain ⟨us,h2,h3⟩:=hS2.ob a _ p hd hp2
           have e0:=ext_set hS2 (.lst (us++[w])) hp2
           refine ⟨p,us,w,rfl,rfl,h2,by rw [← h3.length];exact hl,?_⟩
           refine k σ ρ2 _ ((E1.trans E2).trans e0) (hS2.set hp2 ⟨_,zda,?_⟩) (((hE.mono E1).mono E2).mono e0)
           exact (h3.append (RepL.cons r3 RepL.nil)).mono e0
         · cases hf
       · cases hf
     · cases hf
   | _=>cases hf
theorem boot_list:bootBuiltins "list"=some (.type "list"):=by with_unfolding_all rfl
theorem boot_int:bootBuiltins "int"=some (.type "int"):=by with_unfolding_all rfl
end
end F
namespace F
open PySem L2 PySem.Spec PyProof.Rows

def dflt (n:Nat) (g:G):G:=fun ds S=>g (ds++List.replicate n .non) S
theorem names_cons (i:Nat) {X:Cx}{x:Str}{px:Pos}{es:List Expr}{is:List Nat}{t:TGs} (hN:X.N.Nodup) (h:Names X es is t) (hi:X.N[i]? = some x:=by rfl) (hx:Loc X.env.scope x:=by first | exact Or.inl rfl | exact Or.inr rfl)
   (hf:X.fn x=true∨X.env.scope.names.lookup x=some .local:=by first | exact .inl rfl | exact .inr rfl | assumption)
   (hs:(assignEach (.Name x px::es) X.env).map (·.2)=assign (.Name x px) X.env::(assignEach es X.env).map (·.2):=by rfl):Names X (.Name x px::es) (i::is) (gCons (gName i) t) :=
 .cons hN hi hx hf h (pgs_cons (pg_name hN hi hx hf) h.pgs hs)
def DfOk (K:PySem.W.Frag) (dV:Value):Nat→Prop
 | 0=>dV=.none
 | n + 1=>∃(T:Addr) (o:Obj) (m:Nat),dV=.ref T∧K.lookup T=some o∧o.data=.seq (Array.replicate (n + 1) Value.none) m
structure HasDef (K:PySem.W.Frag) (mg:Str→Option Value) (x:Str) (st:Stmt) (nd:Nat):Prop where
 ex:∃(f:Addr) (fd:FuncData) (dV:Value),FunD K x x st f fd dV∧mg x=some (.ref f)∧DfOk K dV nd
structure HasMth (K:PySem.W.Frag) (mg:Str→Option Value) (c m qual:Str) (st:Stmt):Prop where
 ex:∃(C f:Addr) (fd:FuncData),FunD K m qual st f fd .none∧mg c=some (.ref C)∧Cls K C∧Meth K C m f
structure HasMk (K:PySem.W.Frag) (mg:Str→Option Value) (c qual:Str) (st:Stmt) (nd:Nat):Prop where
 ex:∃(C f:Addr) (fd:FuncData) (dV:Value),FunD K "__init__" qual st f fd dV∧mg c=some (.ref C)∧Mk K C f∧DfOk K dV nd
def Bnd0 (x qual:Str) (st:Stmt) (ps:List Str):Prop:=∀(kV doc pm:Value) (an:Option Addr) (cdv ct:Value) (us:List Value),us.length=ps.length →
 bindArgs (PySem.W.fnOf x qual (defArgs st) (zaj st) (zab st) .none kV doc pm an cdv ct) ⟨us,[]⟩=pure (ps.zip us)
def Bnd1 (x qual:Str) (st:Stmt) (ps:List Str) (n:Nat):Prop:=∀(T:Addr) (kV doc pm:Value) (an:Option Addr) (cdv ct:Value) (us:List Value),us.length=n →
 ∃kk,bindArgs (PySem.W.fnOf x qual (defArgs st) (zaj st) (zab st) (.ref T) kV doc pm an cdv ct) ⟨us,[]⟩=(seqItems? (.ref T) >>= kk)∧kk (some #[Value.none])=pure (ps.zip (us++List.replicate (ps.length - n) Value.none))
section
variable {P:Program}{w:World}{K:PySem.W.Frag}{mg:Str→Option Value}{base:Heap}{x qual c m:Str}{st:Stmt}{N ps:List Str}{k:Nat}{b:C}{dV:Value}{f:Addr}{fd:FuncData}
abbrev Body (P:Program) (w:World) (K:PySem.W.Frag) (mg:Str→Option Value) (base:Heap) (N:List Str) (qual:Str) (st:Stmt) (k:Nat) (b:C):Prop :=
 ∀(f:Addr) (cdv:Value) (A:Around) (outer:List Env) (s:Shared) (H:Hp) (E:XK),Room k (A.deeper (envOfC qual (zab st) s.heap.objs.size f cdv)) →
     FSs (cxOf CX0 P w K mg base N qual (zab st) f cdv A outer s H E).nox (zaj st) b
theorem FunD.binds0 (F:FunD K x qual st f fd .none) (h:Bnd0 x qual st ps):Binds K fd ps []:=by
 obtain ⟨oc,od,kV,doc,pm,an,cdv,ct,osl,rfl,lk,hcd⟩:=F.ex
 exact .all (h kV doc pm an cdv ct)
theorem FunD.binds1 (F:FunD K x qual st f fd dV) (hd:DfOk K dV 1) {n:Nat} (h:Bnd1 x qual st ps n) (hn:n≤ps.length):Binds K fd ps (List.replicate (ps.length - n) Value.none):=by
 obtain ⟨oc,od,kV,doc,pm,an,cdv,ct,osl,rfl,lk,hcd⟩:=F.ex
 obtain ⟨T,o,mm,rfl,hT,ho⟩:=hd
 intro s us hK hl
 obtain ⟨kk,h1,h2⟩:=h T kV doc pm an cdv ct us (by rw [List.length_append,List.length_replicate] at hl;omega)
 exact BindsTo.of_defaults rfl (hK T o hT) ho h1 h2
theorem vals_non:∀n:Nat,Vals (List.replicate n V.non) (List.replicate n Value.none)
 | 0=>.nil
 | n + 1=>.cons rfl (vals_non n)
theorem rep_non {ρ H}:∀n:Nat,RepL K mg ρ H (List.replicate n D.non) (List.replicate n V.non)
 | 0=>RepL.nil
 | n + 1=>RepL.cons rfl (rep_non n)
theorem fn_none:FnOk P w K mg base CX0 k f fd ps (spG K mg fun _ _=>none):=by
 have no:∀vs H Q E,¬ spG K mg (fun _ _=>none) vs H Q E:=fun vs H Q E h=>by
   obtain ⟨_,_,_,_,_,_,_,h,_⟩:=h
   cases h
 exact ⟨fun vs H Q E h=>absurd h (no vs H Q E),fun A outer s H args us vs Q E _ _ _ _ h=>absurd h (no vs H Q E)⟩
theorem HasDef.cal (h:HasDef K mg x st 0) (S:FnScope N ps (zab st)) (hb:Bnd0 x x st ps) (hbody:Body P w K mg base N x st k b):Cal P w K mg base (k + 1) x (zbe N.length ps.length b):=by
 obtain ⟨f,fd,dV,F,hm,rfl⟩:=h.ex
 exact ⟨f,fd,ps,[],[],[],_,F.ok S fun cdv A outer s H E hr=>hbody f cdv A outer s H E hr,hm,F.kp,F.binds0 hb,.nil,fun _ _=>RepL.nil,fun args S r e=>by rw [List.append_nil];exact e⟩
theorem HasDef.none0 (h:HasDef K mg x st 0) (hb:Bnd0 x x st ps):Cal P w K mg base k x (fun _ _=>none):=by
 obtain ⟨f,fd,dV,F,hm,rfl⟩:=h.ex
 exact ⟨f,fd,ps,[],[],[],_,fn_none,hm,F.kp,F.binds0 hb,.nil,fun _ _=>RepL.nil,fun args S r e=>by cases e⟩
theorem HasMth.mth (h:HasMth K mg c m qual st) (S:FnScope N ps (zab st)) (hb:Bnd0 m qual st ps) (hbody:Body P w K mg base N qual st k b):Mth P w K mg base (k + 1) c m (zbe N.length ps.length b):=by
 obtain ⟨C,f,fd,F,hm,hc,hme⟩:=h.ex
 exact ⟨C,f,fd,ps,[],[],[],_,F.ok S fun cdv A outer s H E hr=>hbody f cdv A outer s H E hr,hm,hc,hme,F.binds0 hb,.nil,fun _ _=>RepL.nil,fun args S r e=>by rw [List.append_nil];exact e⟩
theorem HasMk.mk1 (h:HasMk K mg c qual st 1) (S:FnScope N ps (zab st)) (hb:Bnd1 "__init__" qual st ps ps.length) (hbody:Body P w K mg base N qual st k b):Mak P w K mg base (k + 1) c (zbe N.length ps.length b):=by
 obtain ⟨C,f,fd,dV,F,hm,hme,hd⟩:=h.ex
 have B:=F.binds1 hd hb (Nat.le_refl _)
 rw [Nat.sub_self] at B
 exact ⟨C,f,fd,ps,[],[],[],_,F.ok S fun cdv A outer s H E hr=>hbody f cdv A outer s H E hr,hm,hme,B,.nil,fun _ _=>RepL.nil,fun args S r e=>by rw [List.append_nil];exact e⟩
theorem HasMk.mk1d (h:HasMk K mg c qual st 1) (S:FnScope N ps (zab st)) {n:Nat} (hn:ps.length=n + 1) (hb:Bnd1 "__init__" qual st ps n) (hbody:Body P w K mg base N qual st k b):Mak P w K mg base (k + 1) c (dflt 1 (zbe N.length ps.length b)):=by
 obtain ⟨C,f,fd,dV,F,hm,hme,hd⟩:=h.ex
 have B:=F.binds1 hd hb (by omega)
 rw [hn,Nat.add_sub_cancel_left] at B
 exact ⟨C,f,fd,ps,_,_,_,_,F.ok S fun cdv A outer s H E hr=>hbody f cdv A outer s H E hr,hm,hme,B,vals_non 1,fun _ _=>rep_non 1,fun args S r e=>e⟩
end
section
variable {K:PySem.W.Frag}{h:Heap}{mg:Str→Option Value} (X:K.In h) (G:h.Ns mainGlobals mg)
include X G
theorem has_def {x:Str}{st:Stmt}{f:Addr}{oc:Value}{od an:Option Addr}{osl:Array (Option Value)}{kV doc pm cdv ct:Value} (a:PySem.W.nsIn K mainGlobals x=some (some (.ref f)))
   (l:K.lookup f=some ⟨oc,od,.func (PySem.W.fnOf x x (defArgs st) (zaj st) (zab st) .none kV doc pm an cdv ct),osl⟩) (c:PySem.W.codeIn K cdv x=true) (k:PySem.W.keepIn K (.ref f)=true):HasDef K mg x st 0 :=
 ⟨f,_,.none,⟨⟨oc,od,kV,doc,pm,an,cdv,ct,osl,rfl,l,c⟩,k⟩,PySem.W.mg_of X G a,rfl⟩
theorem has_mth {cn m qual:Str}{st:Stmt}{C f:Addr}{oc:Value}{od an:Option Addr}{osl:Array (Option Value)}{kV doc pm cdv ct:Value} (aC:PySem.W.nsIn K mainGlobals cn=some (some (.ref C))) (hc:Cls K C)
   (a:PySem.W.findIn K (.ref C) m=some (some (.ref f))) (i:PySem.W.isFn K (.ref f)=true)
   (l:K.lookup f=some ⟨oc,od,.func (PySem.W.fnOf m qual (defArgs st) (zaj st) (zab st) .none kV doc pm an cdv ct),osl⟩) (c:PySem.W.codeIn K cdv qual=true) (k:PySem.W.keepIn K (.ref f)=true):HasMth K mg cn m qual st :=
 ⟨C,f,_,⟨⟨oc,od,kV,doc,pm,an,cdv,ct,osl,rfl,l,c⟩,k⟩,PySem.W.mg_of X G aC,hc,⟨a,i,k⟩⟩
theorem has_mk1 {cn qual:Str}{st:Stmt}{C f T:Addr}{oc tc:Value}{od an td:Option Addr}{osl tsl:Array (Option Value)}{kV doc pm cdv ct:Value}{m:Nat} (aC:PySem.W.nsIn K mainGlobals cn=some (some (.ref C)))
   (mk:PySem.W.makesIn K C=true) (kc:PySem.W.keepIn K (.ref C)=true) (a:PySem.W.findIn K (.ref C) "__init__"=some (some (.ref f))) (i:PySem.W.isFn K (.ref f)=true)
   (l:K.lookup f=some ⟨oc,od,.func (PySem.W.fnOf "__init__" qual (defArgs st) (zaj st) (zab st) (.ref T) kV doc pm an cdv ct),osl⟩) (c:PySem.W.codeIn K cdv qual=true) (k:PySem.W.keepIn K (.ref f)=true)
   (t:K.lookup T=some ⟨tc,td,.seq #[Value.none] m,tsl⟩):HasMk K mg cn qual st 1 :=
 ⟨C,f,_,.ref T,⟨⟨oc,od,kV,doc,pm,an,cdv,ct,osl,rfl,l,c⟩,k⟩,PySem.W.mg_of X G aC,⟨mk,a,i,kc⟩,T,_,m,rfl,t,rfl⟩
theorem has_cls {cn:Str}{C:Addr} (aC:PySem.W.nsIn K mainGlobals cn=some (some (.ref C))) (pg:PySem.W.plainGet K C Str.empty=true) (hd:PySem.W.hasDictIn K C=true) (po:PySem.W.plainOver K C=true) (sa:PySem.W.findIn K (.ref C) "__setattr__"=some (some (.builtin "object.__setattr__"))):Cls K C:=⟨pg,hd,po,sa⟩
theorem has_fld {cn n:Str}{C:Addr} (aC:PySem.W.nsIn K mainGlobals cn=some (some (.ref C))) (hc:Cls K C) (a:PySem.W.findIn K (.ref C) n=some none):Fld K mg cn n:=fun C' e=>by
 rw [PySem.W.mg_of X G aC] at e
 cases e
 exact ⟨hc,a⟩
theorem has_int {x:Str}{n:Int}{t:Tok} (a:PySem.W.nsIn K mainGlobals x=some (some (.int n t))):∃t,mg x=some (.int n t):=⟨t,PySem.W.mg_of X G a⟩
end
def LawOk (g:G):Prop:=∀ns:List Int,ns.length≤63→∃S,g [.lst (ns.map D.int)] []=some (.bl true,S)
theorem rep_ints {K mg ρ H}:∀ns:List Int,RepL K mg ρ H (ns.map D.int) (ns.map V.int)
 | []=>RepL.nil
 | _::ns=>RepL.cons rfl (rep_ints ns)
theorem law_walk {l:PySem.W.OpenLaw}{q:Program}{loose:List Str}{XP:(Str→Option Value)→Heap→Prop}{YP:World→Heap→Prop}{d:DefRec}{K:Params→PySem.W.Frag}{k:Nat}{g:G}{x:Str} (hn:l.most=some 63) (hdf:d.params.defaults=[]) (hr:Room k callerA)
   (hY:∀(w:World) (h:Heap),YP w h→(K w.params).In h) (hg:LawOk g)
   (F:∀(w:World) (mg:Str→Option Value) (fa:Addr) (h:Heap),(K w.params).In h→h.Ns mainGlobals mg→mg d.name=some (.ref fa) →
     ∃fd:FuncData,(∀(s:Shared) (u:Value),BindsTo s fd ⟨[u],[]⟩ [(x,u)])∧∀base:Heap,(K w.params).In base→base.Ns mainGlobals mg→FnOk l.prog w (K w.params) mg base CX0 k fa fd [x] (spG (K w.params) mg g)) :
   PySem.W.WalkO q loose XP YP l.row.toRowW d [] (fun f vs=>PySem.call f vs):=by
 refine L2.walk_of (n:=63) (k:=k) (x:=x) (CX:=fun _=>CX0) (sp:=fun w vs H Q E=>∃a ns,vs=[.ref a]∧ns.length≤63∧Only H∧SqL (K w.params) H a (ns.map V.int)∧∀H',Q (.bl true) H') hn (by decide) hdf hr hY (fun w mg fa h KX G hm=>?_) (fun w H a ns hl hO hS=>⟨a,ns,rfl,hl,hO,hS,fun _=>rfl⟩) fun _ _ _ _ _ z=>z
 obtain ⟨fd,hb,hF⟩:=F w mg fa h KX G hm
 refine ⟨fd,hb,fun base kb nb=>(hF base kb nb).imp fun vs H Q E hq=>?_⟩
 obtain ⟨a,ns,rfl,hl,hO,hS,k⟩:=hq
 obtain ⟨S,hS'⟩:=hg ns hl
 refine ⟨[],[.lst (ns.map D.int)],[],.bl true,S,?_,⟨rfl,List.nodup_nil,fun i m a e=>by simp at e⟩,hS',fun v ρ' H' _ _ r=>by rw [show v=.bl true from r];exact k H'⟩
 refine RepL.cons ?_ RepL.nil
 unfold Rep
 refine ⟨a,ns.map V.int,rfl,?_,rep_ints ns⟩
 rcases hS with hS | hS
 · exact .inl ⟨by simp,hS⟩
 · exact .inr hS
end F
namespace F
open PySem L2 PySem.Spec PyProof.Rows
def eChain (op op':D→D→Option D) (f g h:E):E:=fun ev S=>(f ev S).bind fun p=>(g ev p.2).bind fun q=>(op p.1 q.1).bind fun z=>match z with
 | .bl true=>(h ev q.2).bind fun r=>(op' q.1 r.1).map fun d=>(d,r.2)
 | .bl false=>some (.bl false,q.2)
 | _=>none
theorem ls1 {P:List Value→Prop} (h:∀a0,P [a0]) (us:List Value) (hl:us.length=1):P us:=match us,hl with
 | [a0],_=>h a0
theorem ls2 {P:List Value→Prop} (h:∀a0 a1,P [a0,a1]) (us:List Value) (hl:us.length=2):P us:=match us,hl with
 | [a0,a1],_=>h a0 a1
theorem ls3 {P:List Value→Prop} (h:∀a0 a1 a2,P [a0,a1,a2]) (us:List Value) (hl:us.length=3):P us:=match us,hl with
 | [a0,a1,a2],_=>h a0 a1 a2
theorem ls4 {P:List Value→Prop} (h:∀a0 a1 a2 a3,P [a0,a1,a2,a3]) (us:List Value) (hl:us.length=4):P us:=match us,hl with
 | [a0,a1,a2,a3],_=>h a0 a1 a2 a3
theorem ls5 {P:List Value→Prop} (h:∀a0 a1 a2 a3 a4,P [a0,a1,a2,a3,a4]) (us:List Value) (hl:us.length=5):P us:=match us,hl with
 | [a0,a1,a2,a3,a4],_=>h a0 a1 a2 a3 a4
end F
namespace F
open PySem L2 PySem.Spec PyProof.Rows
def eChain3 (op op' op2:D→D→Option D) (f g h i:E):E:=fun ev S=>(f ev S).bind fun p=>(g ev p.2).bind fun q=>(op p.1 q.1).bind fun z=>match z with
 | .bl true=>(h ev q.2).bind fun r=>(op' q.1 r.1).bind fun z=>(match z with
   | .bl true=>(i ev r.2).bind fun t=>(op2 r.1 t.1).map fun d=>(d,t.2)
   | .bl false=>some (.bl false,r.2)
   | _=>none)
 | .bl false=>some (.bl false,q.2)
 | _=>none
def sUnpL (is:List Nat) (f:E):C:=fun ev S=>(f ev S).bind fun p=>match p.1 with
 | .lst ds=>(setAll ev is ds).map fun e=>(.nx e,p.2)
 | _=>none
section
variable {prog:Program}{w:World}{A:Around}{E:Value→Shared→Prop}{s:Shared}
theorem draw_lst {it t:Addr}{items:Array Value} (hne:t≠it):∀(n i:Nat) (s:Shared) (Q:List Value→Shared→Prop),s.heap.IsListIter it t i→s.heap.IsList t items→i + n≤items.size →
   (∀h',h'.IsListIter it t (i + n)→Heap.SameBut it s.heap h'→Q ((items.toList.drop i).take n) { s with heap:=h' })→wpAny (model prog w) A (draw (.ref it) n) Q E s
 | 0,i,s,Q,hit,_,_,hQ=>by
   show wpAny _ _ (pure []) Q E s
   exact wpAny_pure (by simpa using hQ s.heap hit (Heap.SameBut.refl ..))
 | n + 1,i,s,Q,hit,ht,hle,hQ=>by
   have hlt:i < items.size:=by omega
   show wpAny _ _ (pyNext (.ref it) >>= _) Q E s
   refine wpAny_bind (wpAny_pyNext_list_item hit ht (x:=items[i]) (by simp [hlt]) fun h1 hit1 hs1=>?_)
   refine wpAny_bind (wpAny_holding (draw_lst hne n (i + 1) _ _ hit1 (ht.extBut hs1.extBut hne) (by omega) fun h2 hit2 hs2=>wpAny_pure ?_))
   have hd:items.toList.drop i=items[i]::items.toList.drop (i + 1):=by simp [List.drop_eq_getElem_cons,hlt]
   have:=hQ h2 (by rw [show i + (n + 1)=i + 1 + n by omega];exact hit2) (hs1.trans hs2)
   rw [hd,List.take_succ_cons] at this
   exact this
theorem unpack_lst {t:Addr}{items:Array Value}{Q:List Value→Shared→Prop} (hh:A.handled=none) (ht:s.heap.IsList t items)
   (hQ:∀h',Heap.ExtBut s.heap.objs.size s.heap h'→Q items.toList { s with heap:=h' }):wpAny (model prog w) A (unpackItems (.ref t) items.size none) Q E s:=by
 have hlt:t≠s.heap.objs.size:=by obtain ⟨o,ho,_⟩:=ht;exact Nat.ne_of_lt (Heap.lt_size ho)
 unfold unpackItems
 refine wpAny_bind ?_
 · unfold notIterableAtAll
   refine wpAny_bind (wpAny_specialOf ht.typeIs slot_list_iter.lookup ?_)
   refine wpAny_pure ?_
   simp only [Bool.false_eq_true,if_false]
   refine wpAny_bind (wpAny_holding (wpAny_pyIter_list ht ?_))
   refine wpAny_bind (wpAny_holding (draw_lst hlt items.size 0 _ _ ⟨_,Heap.get?_push_size _ rfl,rfl,rfl⟩ (ht.push _) (by omega) fun h1 hit1 hs1=>?_))
   have hall:List.take items.size (List.drop 0 items.toList)=items.toList:=by
     rw [List.drop_zero];exact List.take_of_length_le (by simp)
   rw [hall]
   rw [if_neg (by simp)]
   have ht1:h1.IsList t items:=(ht.push _).extBut hs1.extBut hlt
   refine wpAny_bind (wpAny_holding (wpAny_pyNext_list_end hh hit1 ht1 (by simp) fun h2 he2=>?_))
   simp only [Option.isSome_none,Bool.false_eq_true,if_false]
   refine wpAny_pure (hQ h2 fun b o hb e=>he2 b o hb (hs1.extBut b o hb (Heap.get?_push_of_some _ e)))
theorem assign_lst {env:Env}{elts:List Expr}{x1}{pos:Pos}{t:Addr}{items:Array Value}{Q:Unit→Shared→Prop} (hh:A.handled=none) (ht:s.heap.IsList t items)
   (hn:(assignEach elts env).length=items.size) (hstar:(assignEach elts env).findIdx? (·.1)=none)
   (h:∀h',Heap.ExtBut s.heap.objs.size s.heap h'→wpAny (model prog w) A (assignInOrder ((assignEach elts env).map (·.2)) items.toList) Q E { s with heap:=h' }) :
   wpAny (model prog w) A (assign (.Tuple elts x1 pos) env (.ref t)) Q E s:=by
 rw [assign_Tuple]
 refine wpAny_bind (wpAny_standAt ?_)
 unfold unpack
 rw [hn,hstar]
 exact wpAny_bind (wpAny_holding (unpack_lst hh ht h))
end
section
variable {X:Cx}{e:Expr}{es:List Expr}{f:E}{g:As}{p pos:Pos}
def gLst (K:PySem.W.Frag) (n:Nat) (t:TGs):TG:=fun v σ H Q=>∃a xs,v=.ref a∧SqL K H a xs∧xs.length=n∧t xs σ H Q
theorem pg_lst {es:List Expr}{k:Nat}{t:TGs}{n:Nat} (hc:X.calm=true) (h:PGs X es t)
   (hn:(assignEach es X.env).length=n:=by rfl) (hst:(assignEach es X.env).findIdx? (·.1)=none:=by rfl):PG X (.Tuple es k pos) (gLst X.K n t):=by
 intro pins s σ H v u Q I r hw
 obtain ⟨a,xs,e1,hq,hl,hw⟩:=hw
 subst e1
 cases r
 obtain ⟨its,rv,ht,hz⟩:=I.list hq
 refine assign_lst (I.ok.hd hc) ht.isList (by simp [hn,← hl,rv.length]) hst fun h' hx=>?_
 have I1:Inv X pins σ H { s with heap:=h' }:=I.kept (t':=s.toks) fun b o e=>hx b o (Nat.ne_of_lt (Heap.lt_size e)) e
 exact h pins _ σ H xs _ Q I1 (by simpa using rv) hw
theorem fs_unpL (is:List Nat) {es:List Expr}{t:TGs}{k:Nat}{pt:Pos} (hn:Names X es is t) (h:FE X e f) (hc:X.calm=true:=by rfl) (hl:(assignEach es X.env).length=is.length:=by rfl) (hst:(assignEach es X.env).findIdx? (·.1)=none:=by rfl)
   (hs:swapsWithSole [.Tuple es k pt] e pos.line X.env=pure false:=by rfl) (hw:swappedStores [.Tuple es k pt] e X.env=pure none:=by rfl) (h1:(assignEach [.Tuple es k pt] X.env).map (·.2)=[assign (.Tuple es k pt) X.env]:=by rfl) :
   FS X (.Assign [.Tuple es k pt] e pos) (sUnpL is f):=zfo (ps_asg h (pg_lst hc hn.pgs hl hst) hs hw h1) fun σ H D h=>by
 obtain ⟨ρ,ev,S,o,S',hE,hS,hf,k⟩:=h
 obtain ⟨⟨d,S1⟩,q1,hf⟩:=zaz hf
 cases d with
 | lst ds =>
   obtain ⟨ev',q2,hf⟩:=mapS hf
   cases hf
   refine ⟨ρ,ev,S,_,_,hE,hS,q1,fun v ρ1 H1 E1 hS1 r1=>?_⟩
   obtain ⟨p,vs,rfl,t,r⟩:=r1.refL
   exact ⟨p,vs,rfl,t.sq,by rw [← r.length];exact setAll_len q2,names_of hn r (hE.mono E1) q2 fun σ' hE'=>k σ' ρ1 H1 E1 hS1 hE'⟩
 | _=>cases hf
theorem t_chain {R R':R2}{op op':D→D→Option D}{f g h:E}{σ:L2.St}{H:Hp}{Q:VK} (hs:Snd2 X.K X.mg R fun _=>op) (hs':Snd2 X.K X.mg R' fun _=>op') (h0:tE X.K X.mg (eChain op op' f g h) σ H Q):tChain R R' (tE X.K X.mg f) (tE X.K X.mg g) (tE X.K X.mg h) σ H Q:=by
 obtain ⟨ρ,ev,S,d,S',hE,hS,hf,k⟩:=h0
 obtain ⟨⟨x,S1⟩,q1,hf⟩:=zaz hf
 obtain ⟨⟨y,S2⟩,q2,hf⟩:=zaz hf
 obtain ⟨z,q3,hf⟩:=zaz hf
 refine ⟨ρ,ev,S,x,S1,hE,hS,q1,fun v ρ1 H1 E1 hS1 r1=>⟨ρ1,ev,S1,y,S2,hE.mono E1,hS1,q2,fun u ρ2 H2 E2 hS2 r2=>?_⟩⟩
 refine hs ρ2 H2 _ v u x y z _ hS2 (r1.mono E2) r2 q3 fun w H3 E3 hS3 r3=>?_
 dsimp only at hf
 split at hf
 · obtain ⟨⟨t,S4⟩,q4,hf⟩:=zaz hf
   obtain ⟨dd,q5,hf⟩:=mapS hf
   cases hf
   refine ⟨true,r3,ρ2,ev,S2,t,S4,((hE.mono E1).mono E2).mono E3,hS3,q4,fun tv ρ4 H4 E4 hS4 r4=>?_⟩
   exact hs' ρ4 H4 _ u tv y t _ _ hS4 ((r2.mono E3).mono E4) r4 q5 fun w' H5 E5 hS5 r5=>k w' ρ4 H5 ((((E1.trans E2).trans E3).trans E4).trans E5) hS5 r5
 · cases hf
   exact ⟨false,r3,k _ ρ2 H3 ((E1.trans E2).trans E3) hS3 rfl⟩
 · cases hf
theorem fb_leLt {a b c:Expr}{f g h:E}{pos:Pos} (ha:FE X a f) (hb:FE X b g) (hc:FE X c h) (hm:lastMarks [.LtE,.Lt] [b,c]=false:=by with_unfolding_all rfl):FB X (.Compare a [.LtE,.Lt] [b,c] pos) (bE (eChain opLe opLt f g h)) :=
 pt_mono (pt_chain op_le op_lt ha hb hc hm) fun _ _ _ h=>tb_of (fun _ h=>t_chain snd_IB snd_IB h) h
def tChain3 (r r' r2:R2) (ta tb tc td:TE):TE:=fun σ H Q=>ta σ H fun x H1=>tb σ H1 fun y H2=>r x y H2 fun z H3=>∃k,z=.bl k ∧
 (if k=true then tc σ H3 fun w H4=>r' y w H4 fun z' H5=>∃k',z'=.bl k'∧(if k'=true then td σ H5 fun u H6=>r2 w u H6 Q else Q (.bl false) H5) else Q (.bl false) H3)
theorem pt_chain3 {a b c d:Expr}{ta tb tc td:TE}{op op' op2:CmpOp}{r r' r3:R2} (ho:OpR X (compareOp op) r) (ho':OpR X (compareOp op') r') (ho2:OpR X (compareOp op2) r3) (ha:PE X a ta) (hb:PE X b tb) (hc:PE X c tc) (hd:PE X d td)
   (hm:lastMarks [op,op',op2] [b,c,d]=false:=by with_unfolding_all rfl):PT X (.Compare a [op,op',op2] [b,c,d] pos) (tTest (tChain3 r r' r3 ta tb tc td)):=by
 intro pins s σ H Q I h
 refine isTrue_chain (thn (ha pins s σ H _ I h) fun v s1 ⟨x,H1,I1,r1,q1⟩=>test_link (thn (hb pins s1 σ H1 _ I1 q1) fun u s2 ⟨y,H2,I2,r2,q2⟩ =>
   thn (ho pins s2 σ H2 x y v u _ I2 r1 r2 q2) fun d s3 ⟨z,H3,I3,r3,k,e,q3⟩=>?_)) hm
 subst e
 cases r3
 refine wpAny_truthy_bool ?_
 cases k with
 | false =>
   obtain ⟨k',e',q'⟩:=q3
   cases e'
   exact ite_ff ⟨H3,I3,q'⟩
 | true =>
   refine ite_tt (test_link (thn (hc pins s3 σ H3 _ I3 q3) fun w' s4 ⟨z',H4,I4,r4,q4⟩=>thn (ho' pins s4 σ H4 y z' u w' _ I4 r2 r4 q4) fun d' s5 ⟨z2,H5,I5,r5,k2,e2,q5⟩=>?_))
   subst e2
   cases r5
   refine wpAny_truthy_bool ?_
   cases k2 with
   | false =>
     obtain ⟨k',e',q'⟩:=q5
     cases e'
     exact ite_ff ⟨H5,I5,q'⟩
   | true =>
     refine ite_tt (test_last (thn (hd pins s5 σ H5 _ I5 q5) fun w2 s6 ⟨z6,H6,I6,r6,q6⟩=>thn (ho2 pins s6 σ H6 z' z6 w' w2 _ I6 r4 r6 q6) fun d6 s7 ⟨z7,H7,I7,r7,k7,e7,q7⟩=>?_))
     subst e7
     cases r7
     exact wpAny_truthy_bool ⟨H7,I7,q7⟩
theorem fb_leLeLe {a b c d:Expr}{f g h i:E}{pos:Pos} (ha:FE X a f) (hb:FE X b g) (hc:FE X c h) (hd:FE X d i) (hm:lastMarks [.LtE,.LtE,.LtE] [b,c,d]=false:=by with_unfolding_all rfl):FB X (.Compare a [.LtE,.LtE,.LtE] [b,c,d] pos) (bE (eChain3 opLe opLe opLe f g h i)) :=
 pt_mono (pt_chain3 op_le op_le op_le ha hb hc hd hm) fun σ H Q h=>tb_of (fun Q h0=>by
   obtain ⟨ρ,ev,S,d,S',hE,hS,hf,k⟩:=h0
   obtain ⟨⟨x,S1⟩,q1,hf⟩:=zaz hf
   obtain ⟨⟨y,S2⟩,q2,hf⟩:=zaz hf
   obtain ⟨z,q3,hf⟩:=zaz hf
   refine ⟨ρ,ev,S,x,S1,hE,hS,q1,fun v ρ1 H1 E1 hS1 r1=>⟨ρ1,ev,S1,y,S2,hE.mono E1,hS1,q2,fun u ρ2 H2 E2 hS2 r2=>?_⟩⟩
   refine snd_IB ρ2 H2 _ v u x y z _ hS2 (r1.mono E2) r2 q3 fun w H3 E3 hS3 r3=>?_
   dsimp only at hf
   split at hf
   · obtain ⟨⟨t,S4⟩,q4,hf⟩:=zaz hf
     obtain ⟨dd,q5,hf⟩:=zaz hf
     refine ⟨true,r3,ρ2,ev,S2,t,S4,((hE.mono E1).mono E2).mono E3,hS3,q4,fun tv ρ4 H4 E4 hS4 r4=>?_⟩
     refine snd_IB ρ4 H4 _ u tv y t _ _ hS4 ((r2.mono E3).mono E4) r4 q5 fun w' H5 E5 hS5 r5=>?_
     split at hf
     · obtain ⟨⟨t6,S6⟩,q6,hf⟩:=zaz hf
       obtain ⟨d7,q7,hf⟩:=mapS hf
       cases hf
       refine ⟨true,r5,ρ4,ev,S4,t6,S6,((((hE.mono E1).mono E2).mono E3).mono E4).mono E5,hS5,q6,fun tv6 ρ6 H6 E6 hS6 r6=>?_⟩
       exact snd_IB ρ6 H6 _ tv tv6 t t6 _ _ hS6 ((r4.mono E5).mono E6) r6 q7 fun w7 H7 E7 hS7 r7=>k w7 ρ6 H7 ((((((E1.trans E2).trans E3).trans E4).trans E5).trans E6).trans E7) hS7 r7
     · cases hf
       exact ⟨false,r5,k _ ρ4 H5 ((((E1.trans E2).trans E3).trans E4).trans E5) hS5 rfl⟩
     · cases hf
   · cases hf
     exact ⟨false,r3,k _ ρ2 H3 ((E1.trans E2).trans E3) hS3 rfl⟩
   · cases hf) h
end
end F
namespace F
open PySem L2 PySem.Spec PyProof.Rows
mutual
def bnd (n:Nat):D→Bool
 | .obj i=>decide (i < n)
 | .tup ds=>bndL n ds
 | .lst ds=>bndL n ds
 | .clo _ ds=>bndL n ds
 | _=>true
def bndL (n:Nat):List D→Bool
 | []=>true
 | d::ds=>bnd n d && bndL n ds
end
def bndM (n:Nat):MO→Bool
 | .lst ds=>bndL n ds
 | .ins _ fs=>bndL n (fs.map (·.2))
 | .dct kvs=>bndL n (kvs.map (·.2))
 | .exc _=>true
 | .tab _ _=>true
def frz (g:G):G:=fun ds S=>(g ds S).bind fun r=>if (r.2.take S.length).all (bndM S.length)=true then (match r.1 with
 | .obj i=>if i < S.length then some (.obj i,r.2.take S.length) else (match r.2[i]? with
   | some (.lst us)=>if bndL S.length us=true then some (.lst us,r.2.take S.length) else none
   | _=>none)
 | d=>if bnd S.length d=true then some (d,r.2.take S.length) else none) else none
section
variable {K:PySem.W.Frag}{mg:Str→Option Value}{ρ ρ':List Addr}{H H':Hp}{S S1:Sto}{n:Nat}
theorem TupAt.cut {p:Addr}{vs:List V} (h:TupAt K ρ H p vs):TupAt K (ρ.take n) H p vs:=h.imp (fun ⟨a,b⟩=>⟨fun z=>a (List.mem_of_mem_take z),b⟩) id
theorem LstAt.cut {p:Addr}{vs:List V} (h:LstAt K ρ H p vs):LstAt K (ρ.take n) H p vs:=h.imp (fun ⟨a,b⟩=>⟨fun z=>a (List.mem_of_mem_take z),b⟩) id
theorem Cells.cut:∀{xs:List Str}{us:List V}{cl:List (Str×Addr)},Cells ρ H xs us cl→Cells (ρ.take n) H xs us cl
 | [],[],[],_=>trivial
 | x::xs,u::us,p::cl,h=>⟨h.1,fun z=>h.2.1 (List.mem_of_mem_take z),h.2.2.1,Cells.cut h.2.2.2⟩
 | [],[],_::_,h=>h.elim
 | [],_::_,_,h=>h.elim
 | _::_,[],_,h=>h.elim
 | _::_,_::_,[],h=>h.elim
mutual
theorem Rep.cut:∀{d:D}{v:V},bnd n d=true→Rep K mg ρ H d v→Rep K mg (ρ.take n) H d v
 | .non,_,_,h=>h
 | .bl _,_,_,h=>h
 | .int _,_,_,h=>h
 | .str _,_,_,h=>h
 | .fn _,_,_,h=>h
 | .ty _,_,_,h=>h
 | .tup ds,_,hb,h=>by
   unfold Rep at h ⊢
   unfold bnd at hb
   obtain ⟨p,vs,e1,t,r⟩:=h
   exact ⟨p,vs,e1,t.cut,RepL.cut hb r⟩
 | .lst ds,_,hb,h=>by
   unfold Rep at h ⊢
   unfold bnd at hb
   obtain ⟨p,vs,e1,t,r⟩:=h
   exact ⟨p,vs,e1,t.cut,RepL.cut hb r⟩
 | .obj i,_,hb,h=>by
   unfold Rep at h ⊢
   unfold bnd at hb
   obtain ⟨a,e1,e2⟩:=h
   exact ⟨a,e1,by rw [List.getElem?_take_of_lt (of_decide_eq_true hb)];exact e2⟩
 | .lam t,_,_,h=>by
   unfold Rep at h ⊢
   obtain ⟨a,e1,n1,c,pm,ct,n2,h1,h2⟩:=h
   exact ⟨a,e1,fun z=>n1 (List.mem_of_mem_take z),c,pm,ct,fun z=>n2 (List.mem_of_mem_take z),h1,h2⟩
 | .clo t vs,_,hb,h=>by
   unfold Rep at h ⊢
   unfold bnd at hb
   obtain ⟨a,us,e1,⟨n1,c,pm,ct,cl,n2,h1,h2,h3,h4⟩,r⟩:=h
   exact ⟨a,us,e1,⟨fun z=>n1 (List.mem_of_mem_take z),c,pm,ct,cl,fun z=>n2 (List.mem_of_mem_take z),h1,h2,h3,h4.cut⟩,RepL.cut hb r⟩
theorem RepL.cut:∀{ds:List D}{vs:List V},bndL n ds=true→RepL K mg ρ H ds vs→RepL K mg (ρ.take n) H ds vs
 | [],_,_,h=>h
 | d::ds,_,hb,h=>by
   unfold RepL at h ⊢
   unfold bndL at hb
   obtain ⟨v,r,e,h1,h2⟩:=h
   obtain ⟨b1,b2⟩:=Bool.and_eq_true_iff.mp hb
   exact ⟨v,r,e,Rep.cut b1 h1,RepL.cut b2 h2⟩
end
theorem MOk.cut {a:Addr}{m:MO} (hb:bndM n m=true) (h:MOk K mg ρ H a m):MOk K mg (ρ.take n) H a m:=by
 cases m with
 | lst ds=>obtain ⟨vs,h1,h2⟩:=h;exact ⟨vs,h1,h2.cut hb⟩
 | ins c fs=>obtain ⟨C,dx,vs,h0,h1,h2,h3⟩:=h;exact ⟨C,dx,vs,h0,h1,h2,h3.cut hb⟩
 | dct kvs=>obtain ⟨vs,h1,h2,h3⟩:=h;exact ⟨vs,h1,h2,h3.cut hb⟩
 | exc c=>exact h
 | tab x q=>obtain ⟨h0,ps,h1,h2,h3⟩:=h;exact ⟨h0,ps,h1,h2,fun pos cv z=>let ⟨c,z1,z2,z3⟩:=h3 pos cv z;⟨c,z1,fun y=>z2 (List.mem_of_mem_take y),z3⟩⟩
theorem StOk.cut (hS:StOk K mg ρ H S) (hb:(S.take n).all (bndM n)=true):StOk K mg (ρ.take n) H (S.take n):=by
 refine ⟨by rw [List.length_take,List.length_take,hS.len],hS.nd.sublist (List.take_sublist _ _),fun i m a e1 e2=>?_⟩
 have hi:i < n:=by
   have:=(List.getElem?_eq_some_iff.mp e1).1
   rw [List.length_take] at this
   omega
 have hm:m∈S.take n:=List.mem_of_getElem? e1
 rw [List.getElem?_take_of_lt hi] at e1 e2
 exact (hS.ob i m a e1 e2).cut (List.all_eq_true.mp hb m hm)
theorem Ext.cut (e:Ext ρ H ρ' H') (hn:ρ.length=n):Ext ρ H (ρ'.take n) H' :=
 ⟨fun i a h=>by rw [List.getElem?_take_of_lt (by rw [← hn];exact (List.getElem?_eq_some_iff.mp h).1)];exact e.pre i a h,e.keep,fun b hb=>e.new b (List.mem_of_mem_take hb)⟩
theorem frz_sp {g:G} (vs:List V) (H:Hp) (Q:VK) (E:XK) (h:spG K mg (frz g) vs H Q E):spG K mg g vs H Q E:=by
 obtain ⟨ρ,ds,S,d,S',hr,hS,hf,k⟩:=h
 obtain ⟨⟨d1,S1⟩,q1,hf⟩:=zaz hf
 refine ⟨ρ,ds,S,d1,S1,hr,hS,q1,fun v ρ' H' E1 hS1 r1=>?_⟩
 dsimp only at hf
 split at hf
 · rename_i hb
   have e0:=E1.cut hS.len
   have s0:=hS1.cut hb
   split at hf
   · rename_i i
     split at hf
     · rename_i hi
       cases hf
       exact k v _ H' e0 s0 (r1.cut (by unfold bnd;exact decide_eq_true hi))
     · rename_i hi
       split at hf
       · rename_i us eu
         split at hf
         · rename_i hu
           cases hf
           unfold Rep at r1
           obtain ⟨a,rfl,ea⟩:=r1
           obtain ⟨ws,m1,m2⟩:=hS1.ob i _ a eu ea
           refine k _ _ H' e0 s0 ?_
           unfold Rep
           refine ⟨a,ws,rfl,.inl ⟨fun z=>?_,.inl m1⟩,m2.cut hu⟩
           obtain ⟨j,hj,ej⟩:=List.getElem_of_mem z
           rw [List.length_take] at hj
           rw [List.getElem_take] at ej
           have hj2:j < ρ'.length:=by omega
           have e3:ρ'[j]? = ρ'[i]?:=by rw [ea,List.getElem?_eq_getElem hj2,ej]
           have:=(List.getElem?_inj hj2 hS1.nd).mp e3
           omega
         · cases hf
       · cases hf
   · split at hf
     · rename_i hd
       cases hf
       exact k v _ H' e0 s0 (r1.cut hd)
     · cases hf
 · cases hf
end
theorem Cal.frz {P:Program}{w:World}{K:PySem.W.Frag}{mg:Str→Option Value}{base:Heap}{k:Nat}{x:Str}{g:G} (c:Cal P w K mg base k x g):Cal P w K mg base k x (frz g):=by
 obtain ⟨f,fd,ps,ds,dvs,dds,gg,FF,hm,hk,hb,hd,hdd,hg⟩:=c.ex
 refine ⟨f,fd,ps,ds,dvs,dds,_root_.F.frz gg,FnOk.imp FF frz_sp,hm,hk,hb,hd,hdd,fun args S r e=>?_⟩
 obtain ⟨r0,q,e⟩:=zaz e
 show (gg (args++dds) S).bind _=_
 rw [hg args S r0 q]
 exact e
end F
namespace F
open PySem L2 PySem.Spec PyProof.Rows
def loopFT (is:List Nat) (body:C):List D→Ev→Sto→Option (Out×Sto)
 | [],ev,S=>some (.nx ev,S)
 | d::ds,ev,S=>match d with
   | .tup us=>(setAll ev is us).bind fun e1=>(body e1 S).bind fun p=>(match p.1 with
     | .nx e=>loopFT is body ds e p.2
     | .ct e=>loopFT is body ds e p.2
     | .bk e=>some (.nx e,p.2)
     | .rt x=>some (.rt x,p.2))
   | _=>none
def sForLT (is:List Nat) (f:E) (body:C):C:=fun ev S=>(f ev S).bind fun p=>match p.1 with
 | .lst ds=>loopFT is body ds ev p.2
 | _=>none
def opAddL (S:Sto):D→D→Option D
 | .obj a,.lst bs=>(match S[a]? with
   | some (.lst as)=>if as.length + bs.length≤sizeLine then some (.lst (as++bs)) else none
   | _=>none)
 | x,y=>zbc x y
section
variable {K:PySem.W.Frag}{mg:Str→Option Value}{ρ1:List Addr}{H1:Hp}{is:List Nat}{body:C}{X:Cx}
theorem snd_addL:Snd2 K mg (fun x y H Q=>rI0 (fun i j=>.int (i + j)) x y H Q∨(∃i j,x=.str i∧y=.str j∧i.length + j.length≤sizeLine∧Q (.str (i++j)) H)∨rCatL K x y H Q∨rCatT K x y H Q∨rCatT0 K x y H Q) opAddL:=by
 intro ρ H S x y dx dy d Q hS rx ry e k
 unfold opAddL at e
 split at e
 · split at e
   · rename_i a bs _ as ea
     split at e
     · rename_i hl
       cases e
       unfold Rep at rx
       obtain ⟨p,rfl,hp⟩:=rx
       obtain ⟨vs,m1,m2⟩:=hS.ob a _ p ea hp
       obtain ⟨q,us,rfl,t2,r2⟩:=ry.refL
       refine .inr (.inr (.inl ⟨p,q,vs,us,rfl,rfl,SqL.of m1,t2.sq,by rw [← m2.length,← r2.length];exact hl,fun z hz=>?_⟩))
       exact k _ _ (zei hS _ hz) (hS.new _ hz) (Rep.lst (s:=hS) hz (m2.append r2))
     · cases e
   · cases e
 · exact snd_add ρ H S x y dx dy d Q hS rx ry e k
theorem fe_addL {a b:Expr}{f g:E}{pos:Pos} (ha:FE X a f) (hb:FE X b g):FE X (.BinOp a .Add b pos) (e2s opAddL f g) :=
 fe_bin (op_add.or (op_add_str.or (op_catL.or (op_catT.or op_catT0)))) snd_addL ha hb
end
end F
namespace F
open PySem L2 PySem.Spec PyProof.Rows
def compF (c:B) (g:E) (fr:Ev):List D→Sto→Option (List D×Sto)
 | [],S=>some ([],S)
 | d::ds,S=>(c (some d::fr) S).bind fun p=>if p.1=true then (g (some d::fr) p.2).bind fun q=>(compF c g fr ds q.2).bind fun r=>some (q.1::r.1,r.2) else compF c g fr ds p.2
def eCompL (fr:List Nat) (f:E) (c:B) (g:E):E:=fun ev S=>(f ev S).bind fun p=>match p.1 with
 | .lst us=>(compF c g (fr.map (evAt ev)) us p.2).map fun q=>(.lst q.1,q.2)
 | _=>none
def eCompM (fr:List Nat) (f:E) (c:B) (g:E):E:=fun ev S=>(f ev S).bind fun p=>match p.1 with
 | .lst us=>(compF c g (fr.map (evAt ev)) us p.2).map fun q=>(.obj q.2.length,q.2++[.lst q.1])
 | _=>none
def bYes:B:=fun _ S=>some (true,S)
inductive FT (X:Cx):List Expr→B→Prop
 | nil:FT X [] bYes
 | one {e:Expr}{u:B}:FB X e u→FT X [e] u
section
variable {X:Cx}{pins:List (Addr×Obj)}{σ:L2.St}{H:Hp}{s:Shared}{scope:Scope}{x:Str}{N':List Str}{fr:List Nat}
theorem ft_run {ifs:List Expr}{c:B} (h:FT X ifs c) {Q:Bool→Hp→Prop} (I:Inv X pins σ H s) (t:tB X.K X.mg c σ H Q) :
   wpAny (model X.prog X.w) X.A (forIn ifs true fun c r=>if r=true then do let ok ← isTrue c X.env (eval c X.env);pure (ForInStep.yield ok) else pure (ForInStep.yield r)) (TP X pins σ Q) X.xe s:=by
 cases h with
 | nil =>
   obtain ⟨ρ,ev,S,b,S',hE,hS,hf,k⟩:=t
   cases hf
   exact wpAny_tests_nil ⟨H,I,k ρ H (Ext.refl _ _) hS⟩
 | one h=>exact wpAny_tests_one (h pins s σ H Q I t)
def CompIL (X X':Cx) (cn:B) (g:E) (fre:Ev) (t:L2.St) (fp:List Addr) (tn:Nat→Heap→Prop) (Dl:Addr) (us:List D) (ρ1:List Addr) (H2:Hp) (ds:List D) (Sf:Sto) (m:Nat) (st:Shared):Prop :=
 ∃(i:Nat) (ρ':List Addr) (H':Hp) (ys:List V) (its:List Value) (acc rest:List D) (Si:Sto) (w:Option V),m=us.length - i∧i≤us.length∧Inv X' [] (w::t) H' st∧tn i st.heap∧(∀b∈fp,H' b=none)∧H' Dl=none∧st.heap.PlainList Dl (List.toArray its)∧Vals ys its ∧
   Ext ρ1 H2 ρ' H'∧StOk X.K X.mg ρ' H' Si∧RepL X.K X.mg ρ' H' acc ys∧acc.length≤i∧compF cn g fre (us.drop i) Si=some (rest,Sf)∧ds=acc++rest
theorem fs_setCompM (iy:Nat) {elt l:Expr}{ifs:List Expr}{px pos py spos:Pos}{yy:Str}{f g:E}{cn:B} (c:CompOk X scope x N' fr) (hl:FE X l f) (hif:∀s₀ H₀ C ex,FT (compCx X (x::N') scope s₀ H₀ C ex) ifs cn) (helt:∀s₀ H₀ C ex,FE (compCx X (x::N') scope s₀ H₀ C ex) elt g) (hN:X.N.Nodup)
   (hsw:swapsWith (.ListComp elt [⟨.Name x px,l,ifs,0⟩] scope pos) (some (.Name yy py)) spos.line X.env=pure true:=by rfl)
   (hiy:X.N[iy]? = some yy:=by rfl) (hyy:Loc X.env.scope yy:=by first | exact Or.inl rfl | exact Or.inr rfl) (hfy:X.fn yy=true∨X.env.scope.names.lookup yy=some .local:=by first | exact .inl rfl | exact .inr rfl | assumption)
   (hc:X.calm=true:=by rfl) (hs:∀v,foldedSetIterable l X.env v=pure v:=by intro _;rfl) :
   FS X (.Assign [.Name yy py] (.ListComp elt [⟨.Name x px,l,ifs,0⟩] scope pos) spos) (sSet iy (eCompM fr f cn g)):=by
 intro pins s σ H EN I h
 obtain ⟨ρ,ev,S,o,S',hE,hS,hf,k⟩:=h
 obtain ⟨⟨dd,SS⟩,hq0,hf0⟩:=mapS hf
 clear hf
 cases hf0
 obtain ⟨⟨y,S1⟩,q1,hf⟩:=zaz hq0
 clear hq0
 cases y with
 | lst us =>
   · obtain ⟨⟨ds,S2⟩,q2,hf⟩:=mapS hf
     cases hf
     rw [exec_Assign_Name_used _ _ _ _ hsw]
     refine wpAny_bind (wpAny_standAt (wpAny_bind ?_))
     show wpAny _ X.A (do let _ ← comprehension (.ListComp elt [⟨.Name x px,l,ifs,0⟩] scope pos) scope X.env _ (newList []) false (eval l X.env) (some (assign (.Name yy py) X.env))) _ _ s
     refine wpAny_bind (wpAny_mono (wpAny_comprehension_free (use:=some (assign (.Name yy py) X.env)) (Q:=fun _ s'=>SP X pins EN .next s') rfl hs (closureFor_of fun p hp e=>I.ok.has p.1 (.inl ((c.chk p hp).2.1 e))) c.kind (fun y hy e=>(c.chk y hy).2.2 e) ?_) (fun _ s' hq=>wpAny_pure (wpAny_pure hq)) fun _ _ e=>e)
     refine thn (pi_list (tg:=.Name x px) hl pins s σ H (fun J H1=>∃ρ1 p vs,J=Itl X.K p∧Ext ρ H ρ1 H1∧StOk X.K X.mg ρ1 H1 S1∧LstAt X.K ρ1 H1 p vs∧RepL X.K X.mg ρ1 H1 us vs) I ⟨ρ,ev,S,.lst us,S1,hE,hS,q1,fun v ρ1 H1 E1 hS1 r1=>?_⟩) fun v s1 h1=>thn h1 fun itv s2 h2=>?_
     · obtain ⟨p,vs,rfl,t1,rL⟩:=r1.refL
       exact ⟨p,rfl,⟨vs,t1.sq⟩,ρ1,p,vs,rfl,E1,hS1,t1,rL⟩
     obtain ⟨it,fp,tn,J,H2,e,I2,T,st2,f2,ρ1,p,vs,eJ,E1,hS1,t1,rL⟩:=h2
     subst e eJ
     have hlen:=rL.length
     obtain ⟨_,_,_,hz0⟩:=I2.list t1.sq
     have hE1:=hE.mono E1
     have hcell:∀y∈scope.names,y.2≠.cell:=fun y hy=>(c.chk y hy).1
     refine wpAny_newObj_type (wpAny_newFunctionEnv hcell (by intro y hy;simp at hy) (fun h₁ hns₁ hsb₁=>?_) c.kind)
     dsimp only at hns₁ hsb₁ ⊢
     generalize hH2:s2.heap.push { cls:=.type "list",dict:=none,data:=.seq ([]:List Value).toArray }=G2 at hns₁ hsb₁ ⊢
     have hC:G2.objs.size=s2.heap.objs.size + 1:=by rw [← hH2,Heap.size_push]
     have hDC:s2.heap.objs.size≠G2.objs.size:=by rw [hC];exact Nat.ne_of_lt (Nat.lt_succ_self _)
     have hCle:s2.heap.objs.size≤G2.objs.size:=by rw [hC];exact Nat.le_succ _
     have old:∀b o,s2.heap.get? b=some o→h₁.get? b=some o:=fun b o e=>hsb₁.extBut b o (by rw [hC];exact Nat.ne_of_lt (Nat.lt_succ_of_lt (Heap.lt_size e))) (Heap.get?_push_of_some _ (hH2 ▸ Heap.get?_push_of_some _ e))
     have hacc:h₁.PlainList s2.heap.objs.size #[]:=⟨_,hsb₁.extBut _ _ hDC (Heap.get?_push_of_some _ (hH2 ▸ Heap.get?_push_size _ rfl))⟩
     generalize hDl:s2.heap.objs.size=Dl at hDC hCle hacc
     generalize hCC:G2.objs.size=C at hDC hCle hns₁ hsb₁ hC ⊢
     have hfl:∀b∈fp,b < Dl:=fun b hb=>by
       obtain ⟨o,e,_⟩:=T.obj 0 _ st2 b hb
       rw [← hDl];exact Heap.lt_size e
     have hHD:H2 Dl=none:=I2.hok.fresh (by rw [hDl];exact Nat.le_refl _)
     have hDfs:Dl∉frs X.stack:=fun z=>by
       have z':=I2.stkFree Dl z
       rcases List.mem_cons.mp (I2.stkSub Dl z) with e | e
       · have:=I2.lt
         rw [hDl,← e] at this
         exact Nat.lt_irrefl _ this
       · exact I2.nofs (by rw [hDl];exact Nat.le_refl _) e
     generalize hX':compCx X (x::N') scope s2 H2 C fp=X'
     have I3:Inv X' [] (none::fr.map (svAt σ)) H2 { s2 with heap:=h₁,toks:=s2.toks + ([]:List (Str×Value)).length }:=hX' ▸ c.start I2 f2 (by rw [hDl];exact hfl) (by rw [hDl];exact hCle) old hns₁
     have hEf:EnvR X.K X.mg ρ1 H2 (none::fr.map (evAt ev)) (none::fr.map (svAt σ)):=by
       refine ⟨by simp,fun i d q=>?_⟩
       cases i with
       | zero=>simp at q
       | succ i =>
         have q:(fr.map (evAt ev))[i]? = some (some d):=by simpa using q
         rw [List.getElem?_map] at q
         cases ej:fr[i]? with
         | none=>rw [ej] at q;cases q
         | some jj =>
           rw [ej] at q
           have q:evAt ev jj=some d:=by simpa using q
           have hv:ev[jj]? = some (some d):=by
             unfold evAt at q
             split at q
             · rename_i o ho
               rw [ho,q]
             · cases q
           obtain ⟨v,e1,r⟩:=hE1.at_ jj d hv
           refine ⟨v,?_,r⟩
           show (fr.map (svAt σ))[i]? = some (some v)
           rw [List.getElem?_map,ej]
           show some (svAt σ jj)=_
           unfold svAt
           rw [e1]
     have eA:X'.A=X.A:=by rw [← hX'];rfl
     have eP:X'.prog=X.prog:=by rw [← hX'];rfl
     have eW:X'.w=X.w:=by rw [← hX'];rfl
     have eK:X'.K=X.K:=by rw [← hX'];rfl
     have eM:X'.mg=X.mg:=by rw [← hX'];rfl
     have eEx:X'.ex=fp:=by rw [← hX'];rfl
     have eS0:X'.s₀=s2:=by rw [← hX'];rfl
     have eH0:X'.H₀=H2:=by rw [← hX'];rfl
     have eFs:X'.fs=frs X.stack:=by rw [← hX'];rfl
     have eL:X'.env.locals=C:=by rw [← hX'];rfl
     have ePn:X'.pn=[]:=by rw [← hX'];rfl
     have eEnv:X'.env=compEnvC scope (clOf X.env.cells scope.names []) C X.env:=by rw [← hX'];rfl
     have eCalm:X'.calm=true:=by rw [← hX'];exact hc
     have eXe:X'.xe=fun _ _=>False:=by rw [← hX'];rfl
     have pgx:PG X' (.Name x px) (gName 0):=by
       rw [← hX']
       exact pg_name c.nd rfl (.inl (lookup_relabel_local c.hx)) (.inr (lookup_relabel_local c.hx))
     have fel:FE X' elt g:=hX' ▸ helt s2 H2 C fp
     have ftl:FT X' ifs cn:=hX' ▸ hif s2 H2 C fp
     have cellLt:∀y a,X'.env.cells.lookup y=some a→a < Dl:=fun y a e=>by
       rw [eEnv] at e
       obtain ⟨v,q⟩:=I2.cell y a (clOf_sub (fun _ _ h=>by cases h) y a e)
       rw [← hDl];exact q.lt
     have stat:∀{H':Hp}{pl:List (Addr×Obj)},(∀b∈fp,H' b=none)→(∀p∈pl,∀b∈fp,p.1≠b)→∀b∈fp,FpOk X' pl H' b:=fun {H' pl} hn hp b hb =>
       ⟨hn b hb,by rw [eL];exact Nat.ne_of_lt (Nat.lt_of_lt_of_le (hfl b hb) hCle),by rw [eFs];intro z;rcases List.mem_cons.mp (I2.stkSub b z) with e | e;exact (f2 b hb).2.1 e;exact (f2 b hb).2.2.1 e,.inl (by rw [eEx];exact hb),fun y a e=>by
         rw [eEnv] at e
         exact (f2 b hb).2.2.2.2.1 y a (clOf_sub (fun _ _ h=>by cases h) y a e),fun p hpp=>hp p (by rw [ePn] at hpp;simpa using hpp) b hb⟩
     have loop:∀s₃:Shared,s₃={ s2 with heap:=h₁,toks:=s2.toks + ([]:List (Str×Value)).length } →
         codeAny (model X.prog X.w) X.A (.compLoop (.ListComp elt [⟨.Name x px,l,ifs,0⟩] scope pos) 0 (.ref it) (.ref Dl) (compEnvC scope (clOf X.env.cells scope.names []) C X.env))
           (compPost (model X.prog X.w) X.A X.xe (some (assign (.Name yy py) X.env)) (fun _ s'=>SP X pins EN .next s') (.ref Dl) C) s₃:=by
       rintro s₃ rfl
       refine codeAny_compLoop_tests (CompIL X X' cn g (fr.map (evAt ev)) (fr.map (svAt σ)) fp tn Dl us ρ1 H2 ds S2) ?_ (us.length - 0)
         ⟨0,ρ1,H2,[],[],[],ds,S1,none,rfl,Nat.zero_le _,I3,T.keep _ _ _ st2 (fun b hb o e=>old b o e),fun b hb=>(f2 b hb).1,hHD,hacc,.nil,Ext.refl _ _,hS1,RepL.nil,Nat.le_refl _,q2,rfl⟩
       intro m st hI
       generalize notedBy (model X.prog X.w) X.A (compEnvC scope (clOf X.env.cells scope.names []) C X.env) (fun e s'=>compPost (model X.prog X.w) X.A X.xe (some (assign (.Name yy py) X.env)) (fun _ s'=>SP X pins EN .next s') (.ref Dl) C (.error e) s')=EE
       obtain ⟨i,ρ',H',ys,its,acc,rest,Si,w,rfl,hi,I',tni,hfp',hD',⟨nn,hpl⟩,rv,E',hSi,ra,hal,hcl,hds⟩:=hI
       have Ip:Inv X' [(Dl,{ cls:=.type "list",data:=.seq (List.toArray its) nn })] (w::fr.map (svAt σ)) H' st:=I'.pins_of fun p hp=>by
         rw [List.mem_singleton.mp hp]
         exact ⟨hpl,hD',by rw [eL];exact hDC,by rw [eFs];exact hDfs,fun v z=>by cases z⟩
       have hnp:∀p∈[(Dl,({ cls:=.type "list",data:=.seq (List.toArray its) nn }:Obj))],∀b∈fp,p.1≠b:=fun p hp b hb=>by
         rw [List.mem_singleton.mp hp]
         exact Ne.symm (Nat.ne_of_lt (hfl b hb))
       by_cases hlt:i < us.length
       · rw [List.drop_eq_getElem_cons hlt] at hcl
         obtain ⟨⟨ok,Sc⟩,qc,hcl⟩:=zaz hcl
         obtain ⟨xv0,ex0,rx0⟩:=(rL.mono E').get (List.getElem?_eq_getElem hlt)
         have ti:=T.item X' eP eW eK eCalm i [(Dl,{ cls:=.type "list",data:=.seq (List.toArray its) nn })] st (w::fr.map (svAt σ)) H' EE Ip (stat hfp' hnp) tni ⟨vs,xv0,(t1.mono E').sq,ex0⟩
         rw [eA] at ti
         refine thn ti fun r s4 ⟨u,hr,h4⟩=>?_
         subst hr
         dsimp only
         show wpAny (model X.prog X.w) X.A (letOwnedTupleGo (.Name x px) (.ref it) u >>= fun _=>assign (.Name x px) (compEnvC scope (clOf X.env.cells scope.names []) C X.env) u) _ _ _
         refine wpAny_bind (thn h4 fun _ s5 ⟨xv,H5,I5,r5,y5,tn5,fp5⟩=>?_)
         obtain ⟨eH5,exv⟩:=y5
         subst eH5
         have exv:=exv vs ((t1.mono E').sq)
         rw [ex0] at exv
         cases exv
         have I5':=I5.pinned (stat fp5 hnp) (T.obj _ _ tn5)
         have as5:=pgx _ s5 _ H5 _ u (fun σ' H'=>H'=H5∧σ'=(w::fr.map (svAt σ)).set 0 (some xv0)) I5' r5 ⟨rfl,rfl⟩
         rw [eP,eW,eA,eEnv,eXe] at as5
         refine wpAny_mono as5 (fun _ s6 ⟨σ6,H6,I6,eH6,eσ6⟩=>?_) (fun _ _ z=>False.elim z)
         subst eH6 eσ6
         have hE6:EnvR X.K X.mg ρ' H6 (some us[i]::fr.map (evAt ev)) (some xv0::fr.map (svAt σ)):=(hEf.mono E').set (i:=0) rx0
         have tc6:=ft_run ftl (Q:=fun b H7=>b=ok∧∃ρ7,Ext ρ' H6 ρ7 H7∧StOk X.K X.mg ρ7 H7 Sc) I6 ⟨ρ',_,Si,ok,Sc,by rw [eK,eM];exact hE6,by rw [eK,eM];exact hSi,qc,fun ρ7 H7 E7 hS7=>⟨rfl,ρ7,E7,by rw [eK,eM] at hS7;exact hS7⟩⟩
         rw [eP,eW,eA,eEnv,eXe] at tc6
         refine wpAny_mono tc6 (fun ok' s6 ⟨H6,I6,eok,ρ6,E6,hS6⟩=>?_) (fun _ _ z=>False.elim z)
         subst eok
         have hE6:=hE6.mono E6
         have hpin6:=I6.pin (Dl,{ cls:=.type "list",data:=.seq (List.toArray its) nn }) (List.mem_append_right _ (List.mem_append_left _ (List.mem_singleton.mpr rfl)))
         cases ok' with
         | false =>
           have hcl:compF cn g (fr.map (evAt ev)) (us.drop (i + 1)) Sc=some (rest,S2):=hcl
           rw [if_neg Bool.false_ne_true]
           have I8:Inv X' [] (some xv0::fr.map (svAt σ)) H6 s6:=I6.pins_of fun p hp=>by cases hp
           have tn8:tn (i + 1) s6.heap:=T.keep _ _ _ tn5 fun b hb o e=>(I6.pin (b,o) (List.mem_append_right _ (List.mem_append_right _ (zfs hb e)))).1
           refine ⟨us.length - (i + 1),by omega,i + 1,ρ6,H6,ys,its,acc,rest,Sc,_,rfl,by omega,I8,tn8,fun b hb=>?_,hpin6.2.1,⟨nn,hpin6.1⟩,rv,E'.trans E6,hS6,ra.mono E6,by omega,hcl,hds⟩
           obtain ⟨o,e,dd⟩:=T.obj _ _ tn5 b hb
           exact (I6.pin (b,o) (List.mem_append_right _ (List.mem_append_right _ (zfs hb e)))).2.1
         | true =>
           rw [if_pos rfl]
           have hcl:(g (some us[i]::fr.map (evAt ev)) Sc).bind (fun q=>(compF cn g (fr.map (evAt ev)) (us.drop (i + 1)) q.2).bind fun r=>some (q.1::r.1,r.2))=some (rest,S2):=hcl
           obtain ⟨⟨yv,Sn⟩,qe,hcl⟩:=zaz hcl
           obtain ⟨⟨rest',Se⟩,qr,hcl⟩:=zaz hcl
           cases hcl
           have el6:=fel _ s6 _ H6 (fun v H7=>∃ρ7,Ext ρ6 H6 ρ7 H7∧StOk X.K X.mg ρ7 H7 Sn∧Rep X.K X.mg ρ7 H7 yv v) I6 ⟨ρ6,_,Sc,yv,Sn,by rw [eK,eM];exact hE6,by rw [eK,eM];exact hS6,qe,fun v ρ7 H7 E7 hS7 r7=>⟨ρ7,E7,by rw [eK,eM] at hS7;exact hS7,by rw [eK,eM] at r7;exact r7⟩⟩
           rw [eP,eW,eA,eEnv,eXe] at el6
           refine wpAny_mono el6 (fun u7 s7 ⟨v7,H7,I7,r7,ρ7,E7,hS7,rp7⟩=>?_) (fun _ _ z=>False.elim z)
           have hpin:=I7.pin (Dl,{ cls:=.type "list",data:=.seq (List.toArray its) nn }) (List.mem_append_right _ (List.mem_append_left _ (List.mem_singleton.mpr rfl)))
           have hvl:=rv.length
           have hral:=ra.length
           refine wpAny_list_append_plain ⟨nn,hpin.1⟩ (fun h8 hp8 hsb8=>?_) (by rw [List.size_toArray];omega)
           have I8:Inv X' [] (some xv0::fr.map (svAt σ)) H7 { s7 with heap:=h8 }:=by
             have I7':Inv X' [] (some xv0::fr.map (svAt σ)) H7 s7:=I7.pins_of fun p hp=>by cases hp
             exact I7'.turned (it:=Dl) (t':=s7.toks) (fun b o hb e=>(hsb8.2 b hb).trans e) hpin.2.1 (by rw [eL];exact hDC) (.inr (by rw [eS0,hDl];exact Nat.le_refl _)) (fun y a e=>Nat.ne_of_lt (cellLt y a e)) (fun p hp=>by rw [ePn] at hp;cases hp)
           have tn8:tn (i + 1) h8:=T.keep _ _ _ tn5 fun b hb o e=>by
             have:=(I7.pin (b,o) (List.mem_append_right _ (List.mem_append_right _ (zfs hb e)))).1
             exact (hsb8.2 b (Nat.ne_of_lt (hfl b hb))).trans this
           refine ⟨us.length - (i + 1),by omega,i + 1,ρ7,H7,ys++[v7],its++[u7],acc++[yv],rest',Sn,_,rfl,by omega,I8,tn8,fun b hb=>?_,hpin.2.1,?_,rv.append (.cons r7 .nil),(E'.trans E6).trans E7,hS7,((ra.mono E6).mono E7).append (RepL.cons rp7 RepL.nil),by simp;omega,qr,by simp [hds]⟩
           · obtain ⟨o,e,dd⟩:=T.obj _ _ tn5 b hb
             exact (I7.pin (b,o) (List.mem_append_right _ (List.mem_append_right _ (zfs hb e)))).2.1
           · rw [show (its++[u7]).toArray=its.toArray.push u7 by simp]
             exact hp8
       · have ei:i=us.length:=by omega
         have td:=T.done X' eP eW eK eCalm i [(Dl,{ cls:=.type "list",data:=.seq (List.toArray its) nn })] st (w::fr.map (svAt σ)) H' EE Ip (stat hfp' hnp) tni ⟨vs,(t1.mono E').sq,by omega⟩
         rw [eA] at td
         refine thn td fun r s4 ⟨hr,I4⟩=>?_
         subst hr
         dsimp only
         rw [List.drop_eq_nil_of_le (by omega)] at hcl
         cases hcl
         rw [List.append_nil] at hds
         subst hds
         obtain ⟨mm,hns,_⟩:=id I4.loc
         rw [eL] at hns
         have hpin:=I4.pin (Dl,{ cls:=.type "list",data:=.seq (List.toArray its) nn }) (List.mem_append_right _ (List.mem_singleton.mpr rfl))
         have hHC:H' C=none:=by
           have:=I4.free
           rw [eL] at this
           exact this
         have bs:=I4.base
         rw [eFs,eEx,eH0,eS0] at bs
         have hok4:=I4.hok
         rw [eP,eW] at hok4
         have os4:=I4.os
         rw [eS0] at os4
         have I9:Inv X pins σ H' s4:=I2.call' (s':=s4) os4 bs hok4 I4.bare fun b hb=>by
           obtain ⟨_,a1,a2,a3,a4,a5⟩:=f2 b hb
           exact ⟨a3,a1,a4,a5⟩
         have hvl:=rv.length
         have hral:=ra.length
         have hDl2:s2.heap.objs.size≤Dl:=by rw [hDl];exact Nat.le_refl _
         have cl2:∀y a,X.env.cells.lookup y=some a→a < Dl:=fun y a e=>by
           obtain ⟨v,q⟩:=I2.cell y a e
           exact Nat.lt_of_lt_of_le q.lt hDl2
         have pl2:∀q∈X.pn++pins,q.1 < Dl:=fun q hq=>Nat.lt_of_lt_of_le (Heap.lt_size (I2.pin q hq).1) hDl2
         have ll2:X.env.locals < Dl:=Nat.lt_of_lt_of_le I2.lt hDl2
         have I10:Inv X pins σ (upd H' Dl (.lst ys)) s4:=Inv.track (its:=its) (n:=nn) I9 hD' hpin.1 rv (by omega) (.inr (Nat.le_trans I2.sz hDl2)) (Ne.symm (Nat.ne_of_lt ll2))
           (fun y a e=>Nat.ne_of_lt (cl2 y a e)) (fun q hq=>Nat.ne_of_lt (pl2 q hq))
         refine wpAny_assign_Name (store_ok2 I10 hN hiy hyy (v:=.ref Dl) rfl (fun s5 I5 ⟨aa,sb,ha⟩=>?_) hfy)
         have hCa:C≠aa:=by
           rcases ha with rfl | ha
           · exact Ne.symm (Nat.ne_of_lt (Nat.lt_of_lt_of_le ll2 hCle))
           · exact Ne.symm (Nat.ne_of_lt (Nat.lt_of_lt_of_le (cl2 _ _ ha) hCle))
         refine ⟨mm,hns.sameBut sb hCa,fun h' hs'=>?_⟩
         have hnC:upd H' Dl (.lst ys) C=none:=by rw [zcc (Ne.symm hDC)];exact hHC
         have I6:=I5.turned (it:=C) (t':=s5.toks) (h':=h') (fun b o hb e=>(hs'.2 b hb).trans e) hnC (Ne.symm (Nat.ne_of_lt (Nat.lt_of_lt_of_le ll2 hCle))) (.inr (Nat.le_trans I2.sz (Nat.le_trans hDl2 hCle)))
           (fun y a e=>Nat.ne_of_lt (Nat.lt_of_lt_of_le (cl2 y a e) hCle)) (fun q hq=>Nat.ne_of_lt (Nat.lt_of_lt_of_le (pl2 q hq) hCle))
         have ea:=ext_add hSi (.lst ys) hD'
         have ext:=E1.trans (E'.trans ea)
         refine ⟨_,_,I6,k _ _ _ ext (hSi.add hD' ⟨ys,zda,ra.mono ea⟩) ((hE.mono ext).set (v:=.ref Dl) ?_ iy)⟩
         unfold Rep
         refine ⟨Dl,rfl,?_⟩
         rw [List.getElem?_append_right (by rw [hSi.len] <;> exact Nat.le_refl _),hSi.len]
         simp
     exact codeAny_compStart_list (loop _ rfl) (T.self X.A 0 _ _ _ (T.keep _ _ _ st2 (fun b hb o e=>old b o e)) (loop _ rfl))
 | _=>cases hf
end
end F
namespace F
open PySem L2 PySem.Spec PyProof.Rows
def opSlM (S:Sto):D→Option Int→Option Int→Option D
 | .obj i,lo,hi=>(match S[i]? with
   | some (.lst ds)=>some (.lst (cutD ds lo hi))
   | _=>none)
 | .lst ds,lo,hi=>some (.lst (cutD ds lo hi))
 | _,_,_=>none
def eSlM (f:E) (a b:Pt):E:=fun ev S=>(f ev S).bind fun p=>(a ev p.2).bind fun q=>(b ev q.2).bind fun r=>(opSlM r.2 p.1 q.1 r.1).map fun d=>(d,r.2)
section
variable {X:Cx}{pos:Pos}
theorem fe_sliceM {a:Expr}{lo hi:Option Expr}{f:E}{u w:Pt}{p2:Pos} (ha:FE X a f) (hl:FPt X lo u) (hh:FPt X hi w):FE X (.Subscript a (.Slice lo hi none p2) pos) (eSlM f u w) :=
 zct (pe_slice (sl_list.or sl_tup) ha hl hh) fun σ H Q h=>by
   obtain ⟨ρ,ev,S,d,S',hE,hS,hf,k⟩:=h
   obtain ⟨⟨x,S1⟩,q1,hf⟩:=zaz hf
   obtain ⟨⟨lo,S2⟩,q2,hf⟩:=zaz hf
   obtain ⟨⟨hi,S3⟩,q3,hf⟩:=zaz hf
   obtain ⟨z,q4,hf⟩:=mapS hf
   cases hf
   refine ⟨ρ,ev,S,x,S1,hE,hS,q1,fun v ρ1 H1 E1 hS1 r1=>⟨ρ1,ev,S1,lo,S2,hE.mono E1,hS1,q2,fun ρ2 H2 E2 hS2=>⟨ρ2,ev,S2,hi,_,(hE.mono E1).mono E2,hS2,q3,fun ρ3 H3 E3 hS3=>?_⟩⟩⟩
   have r3:=(r1.mono E2).mono E3
   have E:=(E1.trans E2).trans E3
   cases x with
   | lst ds =>
     cases q4
     obtain ⟨p,vs,rfl,t,r⟩:=r3.refL
     exact .inl ⟨p,vs,rfl,t.sq,fun b hb=>k _ _ _ (E.trans (zei hS3 _ hb)) (hS3.new _ hb) (Rep.lst (s:=hS3) hb (cut_rep r lo hi))⟩
   | obj i =>
     dsimp only [opSlM] at q4
     split at q4
     · rename_i ds hd
       cases q4
       unfold Rep at r3
       obtain ⟨p,rfl,hp⟩:=r3
       obtain ⟨vs,h1,r⟩:=hS3.ob _ _ p hd hp
       exact .inl ⟨p,vs,rfl,SqL.of h1,fun b hb=>k _ _ _ (E.trans (zei hS3 _ hb)) (hS3.new _ hb) (Rep.lst (s:=hS3) hb (cut_rep r lo hi))⟩
     · cases q4
   | _=>cases q4
end
end F
namespace F
open PySem L2 PySem.Spec PyProof.Rows
section
variable {K:PySem.W.Frag}{mg:Str→Option Value}{ρ:List Addr}{H:Hp}{S:Sto}
variable {X:Cx}{a b e o i:Expr}{f g h:E}{pos:Pos}
theorem RepL.dropLast {ds:List D}{vs:List V} (r:RepL K mg ρ H ds vs):RepL K mg ρ H ds.dropLast vs.dropLast:=by
 rw [List.dropLast_eq_take,List.dropLast_eq_take,← r.length]
 exact r.take _
end
end F
namespace F
open PySem L2 PySem.Spec PyProof.Rows
structure Fly (h₀ h:Heap) (H:Hp) (a C:Addr):Prop where
 new:h₀.get? a=none
 un:H a=none
 tr:∃oe vs T oT ts,h.get? a=some oe∧oe.cls=.ref C∧oe.data=.fields vs∧vs[1]? = some (.ref T)∧h₀.get? T=none∧H T=none∧T≠a∧h.get? T=some oT∧oT.data=.fields ts∧ts[3]? = some .none
theorem hide_frames {h base:Heap}{xs:List Addr}:∀{l:List Env},h.FunFrames base l→(∀b∈frs l,b∈xs)→h.FunFrames (PySem.W.hideAll h xs) l
 | [],_,_=>trivial
 | env::l,⟨hk,⟨L,o,hf,hn,ho,hd⟩,hr⟩,hx=>by
   refine ⟨hk,⟨L,o,hf,PySem.W.hideAll_none xs (hx L ?_),ho,hd⟩,hide_frames hr fun b hb=>hx b ?_⟩
   · unfold frs;rw [List.filterMap_cons,hf];exact List.mem_cons_self ..
   · unfold frs at hb ⊢
     rw [List.filterMap_cons,hf]
     exact List.mem_cons_of_mem _ hb
structure Lft (fs:List Addr) (h₀:Heap) (H:Hp) (a C:Addr) (h h':Heap):Prop where
 keep:∀b o,h.get? b=some o→b∉fs→(∃o',h₀.get? b=some o')∨(∃u,H b=some u)→h'.get? b=some o
 slot:∀b o,h.get? b=some o→b∈fs→∃sl,h'.get? b=some { o with slots:=sl }
section
variable {M:Model}{A:Around}{E:Value→Shared→Prop}{s:Shared}
theorem leave_next {base h₀:Heap}{H:Hp}{env:Env}{outer:List Env}{L a C:Addr}{Q:Unit→Shared→Prop} (hfr:A.frames=some (env::outer)) (hl:s.heap.FunFrames base (env::outer)) (hf:env.frame=some L) (fl:Fly h₀ s.heap H a C)
   (hH:∀b u,H b=some u→∃o,s.heap.get? b=some o) (h0:∀b o,h₀.get? b=some o→∃o',s.heap.get? b=some o')
   (h:∀h',Fly h₀ h' H a C→Lft (frs (env::outer)) h₀ H a C s.heap h'→h'.FunFrames base (env::outer)→Q () { s with heap:=h' }):wpAny M A (leaving env (.ref a)) Q E s:=by
 obtain ⟨oe,vs,T,oT,ts,he,hc,hd,h1,hT0,hTH,hTa,hT,hdT,h3⟩:=fl.tr
 generalize hxs:frs (env::outer)++[a,T]=xs
 have hfx:∀b∈frs (env::outer),b∈xs:=fun b hb=>by rw [← hxs];exact List.mem_append_left _ hb
 have hax:a∈xs:=by rw [← hxs];simp
 have hTx:T∈xs:=by rw [← hxs];simp
 refine wpAny_leaving_next (base:=PySem.W.hideAll s.heap xs) (cls:=.ref C) hfr (hide_frames hl hfx) hf ⟨oe,vs,T,oT,ts,he,hc,hd,h1,PySem.W.hideAll_none xs hTx,hTa,hT,hdT,h3⟩ (fun b o e=>PySem.W.of_hideAll xs e) (PySem.W.hideAll_none xs hax) fun h' hL=>?_
 obtain ⟨k1,k2,k3,k4⟩:=hL
 obtain ⟨oe',vs',T',oT',ts',he',hc',hd',h1',hT',hTa',hT2,hdT',h3'⟩:=k3
 have hTf:T'∉frs (env::outer):=fun z=>by
   obtain ⟨_,o,ho,hnf⟩:=k2.mem z
   rw [hT2] at ho;cases ho
   exact hnf _ hdT'
 have hTn:s.heap.get? T'=none∨T'=T:=by
   cases q:s.heap.get? T' with
   | none=>exact .inl rfl
   | some o =>
     by_cases z:T'∈xs
     · rw [← hxs] at z
       rcases List.mem_append.mp z with z | z
       · exact absurd z hTf
       · simp at z
         exact .inr (z.resolve_left hTa')
     · rw [PySem.W.hideAll_get xs q z] at hT';cases hT'
 refine h h' ⟨fl.new,fl.un,oe',vs',T',oT',ts',he',hc',hd',h1',?_,?_,hTa',hT2,hdT',h3'⟩ ⟨fun b o e nb hb=>?_,fun b o e hb=>?_⟩ (hl.of_keeps fun b o e hnf=>?_)
 · rcases hTn with z | rfl
   · cases q:h₀.get? T' with
     | none=>rfl
     | some o=>obtain ⟨o',q'⟩:=h0 T' o q;rw [z] at q';cases q'
   · exact hT0
 · rcases hTn with z | rfl
   · cases q:H T' with
     | none=>rfl
     | some o=>obtain ⟨o',q'⟩:=hH T' o q;rw [z] at q';cases q'
   · exact hTH
 · refine k1 b o (PySem.W.hideAll_get xs e fun z=>?_)
   rw [← hxs] at z
   rcases List.mem_append.mp z with z | z
   · exact nb z
   · simp at z
     rcases z with rfl | rfl
     · rcases hb with ⟨_,hb⟩ | ⟨u,hb⟩
       · rw [fl.new] at hb;cases hb
       · rw [fl.un] at hb;cases hb
     · rcases hb with ⟨_,hb⟩ | ⟨u,hb⟩
       · rw [hT0] at hb;cases hb
       · rw [hTH] at hb;cases hb
 · obtain ⟨_,o2,ho2,hnf⟩:=hl.mem hb
   rw [e] at ho2;cases ho2
   exact k4 b o e hnf
 · obtain ⟨sl,q⟩:=k4 b o e hnf
   exact ⟨_,q,rfl⟩
theorem leave_first {base h₀:Heap}{H:Hp}{env:Env}{outer:List Env}{L a C:Addr}{oe:Obj}{vs:Array Value}{Q:Unit→Shared→Prop} (hfr:A.frames=some (env::outer)) (hl:s.heap.FunFrames base (env::outer)) (hf:env.frame=some L)
   (he:s.heap.get? a=some oe) (hc:oe.cls=.ref C) (hd:oe.data=.fields vs) (h1:vs[1]? = some .none) (hn:h₀.get? a=none) (hu:H a=none)
   (hH:∀b u,H b=some u→∃o,s.heap.get? b=some o) (h0:∀b o,h₀.get? b=some o→∃o',s.heap.get? b=some o')
   (h:∀h',Fly h₀ h' H a C→Lft (frs (env::outer)) h₀ H a C s.heap h'→h'.FunFrames base (env::outer)→Q () { s with heap:=h' }):wpAny M A (leaving env (.ref a)) Q E s:=by
 generalize hxs:frs (env::outer)++[a]=xs
 have hfx:∀b∈frs (env::outer),b∈xs:=fun b hb=>by rw [← hxs];exact List.mem_append_left _ hb
 have hax:a∈xs:=by rw [← hxs];simp
 refine wpAny_leaving_first (base:=PySem.W.hideAll s.heap xs) hfr (hide_frames hl hfx) hf he (fun b o e=>PySem.W.of_hideAll xs e) (PySem.W.hideAll_none xs hax) hd h1 fun h' hL=>?_
 obtain ⟨k1,k2,k3,k4⟩:=hL
 obtain ⟨oe',vs',T',oT',ts',he',hc',hd',h1',hT',hTa',hT2,hdT',h3'⟩:=k3
 have hTf:T'∉frs (env::outer):=fun z=>by
   obtain ⟨_,o,ho,hnf⟩:=k2.mem z
   rw [hT2] at ho;cases ho
   exact hnf _ hdT'
 have hTn:s.heap.get? T'=none:=by
   cases q:s.heap.get? T' with
   | none=>rfl
   | some o =>
     by_cases z:T'∈xs
     · rw [← hxs] at z
       rcases List.mem_append.mp z with z | z
       · exact absurd z hTf
       · exact absurd (List.mem_singleton.mp z) hTa'
     · rw [PySem.W.hideAll_get xs q z] at hT';cases hT'
 refine h h' ⟨hn,hu,oe',vs',T',oT',ts',he',hc'.trans hc,hd',h1',?_,?_,hTa',hT2,hdT',h3'⟩ ⟨fun b o e nb hb=>?_,fun b o e hb=>?_⟩ (hl.of_keeps fun b o e hnf=>?_)
 · cases q:h₀.get? T' with
   | none=>rfl
   | some o=>obtain ⟨o',q'⟩:=h0 T' o q;rw [hTn] at q';cases q'
 · cases q:H T' with
   | none=>rfl
   | some o=>obtain ⟨o',q'⟩:=hH T' o q;rw [hTn] at q';cases q'
 · refine k1 b o (PySem.W.hideAll_get xs e fun z=>?_)
   rw [← hxs] at z
   rcases List.mem_append.mp z with z | z
   · exact nb z
   · rw [List.mem_singleton.mp z] at hb
     rcases hb with ⟨_,hb⟩ | ⟨u,hb⟩
     · rw [hn] at hb;cases hb
     · rw [hu] at hb;cases hb
 · obtain ⟨_,o2,ho2,hnf⟩:=hl.mem hb
   rw [e] at ho2;cases ho2
   exact k4 b o e hnf
 · obtain ⟨sl,q⟩:=k4 b o e hnf
   exact ⟨_,q,rfl⟩
end
def CX1 (P:Program) (w:World):CXT:=fun outer H s E e s' =>
 ∃a C H',e=.ref a∧s'.os=s.os∧AllBare s'.gens∧Un (frs outer) [] H H' s.heap s'.heap∧HOk P w H' s'.heap∧Fly s.heap s'.heap H' a C∧E e (some C) H'
section
variable {X:Cx}{pins:List (Addr×Obj)}{σ:L2.St}{H:Hp}{s:Shared}
theorem Fly.back {h₀ h₁ h:Heap}{a C:Addr} (f:Fly h₁ h H a C) (k:∀b o,h₀.get? b=some o→∃o',h₁.get? b=some o'):Fly h₀ h H a C:=by
 have n:∀b,h₁.get? b=none→h₀.get? b=none:=fun b e=>by
   cases q:h₀.get? b with
   | none=>rfl
   | some o=>obtain ⟨o',q'⟩:=k b o q;rw [e] at q';cases q'
 obtain ⟨oe,vs,T,oT,ts,r1,r2,r3,r4,r5,r6⟩:=f.tr
 exact ⟨n a f.new,f.un,oe,vs,T,oT,ts,r1,r2,r3,r4,n T r5,r6⟩
theorem un_left {fs:List Addr}{H₀:Hp}{L a C:Addr}{h₀ h h':Heap} (u:Un fs [] H₀ H h₀ h) (l:Lft (L::fs) h₀ H a C h h') (hL:h₀.get? L=none):Un fs [] H₀ H h₀ h' where
 keep:=fun b o e n nb hx=>l.keep b o (u.keep b o e n nb hx) (fun z=>(List.mem_cons.mp z).elim (fun z=>by rw [z,hL] at e;cases e) nb) (.inl ⟨_,e⟩)
 slot:=fun b o e n nb hx=>by
   obtain ⟨sl,q⟩:=u.slot b o e n nb hx
   obtain ⟨sl',q'⟩:=l.slot b _ q (List.mem_cons_of_mem _ nb)
   exact ⟨sl',q'⟩
 free:=u.free
 there:=fun b o e hx=>by
   obtain ⟨o',q⟩:=u.there b o e hx
   by_cases z:b∈L::fs
   · obtain ⟨sl,q'⟩:=l.slot b _ q z
     exact ⟨_,q'⟩
   · exact ⟨_,l.keep b _ q z (.inl ⟨_,e⟩)⟩
 tups:=u.tups
 frzs:=u.frzs
 tbls:=u.tbls
theorem obj_some {P:Program}{w:World}{h:Heap}{a:Addr}{o:HO} (x:ObjOk P w H h a o):∃q,h.get? a=some q:=by
 cases o with
 | lst xs=>obtain ⟨_,_,_,_,e⟩:=x;exact ⟨_,e⟩
 | tup xs=>obtain ⟨_,_,_,p⟩:=x;obtain ⟨o,e,_⟩:=p;exact ⟨_,e⟩
 | dK kvs=>obtain ⟨_,_,_,_,o,_,_,e,_⟩:=x;exact ⟨_,e⟩
 | dT kvs=>obtain ⟨_,_,_,_,o,_,_,e,_⟩:=x;exact ⟨_,e⟩
 | set S n=>obtain ⟨o,_,_,_,e,_⟩:=x;exact ⟨_,e⟩
 | ins C dx fs=>obtain ⟨_,_,_,e,_⟩:=x;exact ⟨_,e⟩
 | own y=>obtain ⟨_,e⟩:=x;exact ⟨_,e⟩
 | xd fs=>obtain ⟨_,⟨_,_,_,e,_⟩,_⟩:=x;exact ⟨_,e⟩
 | rng lo hi=>obtain ⟨_,_,_,e⟩:=x;exact ⟨_,e⟩
 | frz ob u=>obtain ⟨e,_⟩:=x;exact ⟨_,e⟩
 | tbl ps=>exact ⟨_,(show h.get? a=some _ from x)⟩
 | met f y=>exact ⟨_,(show h.get? a=some _ from x)⟩
 | ext φ=>obtain ⟨_,⟨_,e⟩,_⟩:=x;exact ⟨_,e⟩
theorem hok_left {P:Program}{w:World}{fs:List Addr}{a C:Addr}{h₀ h h':Heap} (ok:HOk P w H h) (l:Lft fs h₀ H a C h h') (hf:∀b∈fs,H b=none):HOk P w H h':=fun b u e =>
 (ok b u e).stay (fun c v hc r=>by
   have ht:∃z,H c=some z:=by
     rcases hc with rfl | hc
     · exact ⟨_,e⟩
     · exact ⟨_,hc⟩
   obtain ⟨z,hz⟩:=ht
   exact l.keep c v r (fun m=>by rw [hf c m] at hz;cases hz) (.inr ⟨z,hz⟩)) (fun c r=>r) fun c xs r=>r
theorem xe_next {P:Program}{w:World}{K:PySem.W.Frag}{mg:Str→Option Value}{base:Heap}{N:List Str}{qual:Str}{scope:Scope}{f:Addr}{cd:Value}{A:Around}{outer:List Env}{s₀:Shared}{H₀:Hp}{E:XK}{a C:Addr}
   (I:Inv (cxOf (CX1 P w) P w K mg base N qual scope f cd A outer s₀ H₀ E) pins σ H s) (fl:Fly s₀.heap s.heap H a C) (hE:E (.ref a) (some C) H):(cxOf (CX1 P w) P w K mg base N qual scope f cd A outer s₀ H₀ E).xe (.ref a) s:=by
 have hfs:∀b∈frs (envOfC qual scope s₀.heap.objs.size f cd::outer),H b=none:=I.stkFree
 refine leave_next (base:=base) (h₀:=s₀.heap) (H:=H) (L:=s₀.heap.objs.size) I.ok.frames I.stack rfl fl (fun b u e=>obj_some (I.hok b u e)) (fun b o e=>I.base.there b o e (by show b∉([]:List Addr);simp)) fun h' f1 l1 _=>?_
 have l2:Lft (s₀.heap.objs.size::frs outer) s₀.heap H a C s.heap h':=l1
 exact ⟨a,C,H,rfl,I.os,I.bare,un_left I.base l2 (Heap.get?_none_of_le (Nat.le_refl _)),hok_left I.hok l1 hfs,f1,hE⟩
theorem xe_first {P:Program}{w:World}{K:PySem.W.Frag}{mg:Str→Option Value}{base:Heap}{N:List Str}{qual:Str}{scope:Scope}{f:Addr}{cd:Value}{A:Around}{outer:List Env}{s₀:Shared}{H₀:Hp}{E:XK}{a C:Addr}{h₁:Heap}{args:List Value}
   (I:Inv (cxOf (CX1 P w) P w K mg base N qual scope f cd A outer s₀ H₀ E) pins σ H s) (mk:Heap.MadeExcOf s.heap h₁ a (.ref C) args) (hE:E (.ref a) (some C) H):(cxOf (CX1 P w) P w K mg base N qual scope f cd A outer s₀ H₀ E).xe (.ref a) { s with heap:=h₁ }:=by
 have I1:Inv (cxOf (CX1 P w) P w K mg base N qual scope f cd A outer s₀ H₀ E) pins σ H { s with heap:=h₁ }:=I.kept (t':=s.toks) mk.keeps
 obtain ⟨t,he,_⟩:=mk.there
 have hu:H a=none:=by
   cases q:H a with
   | none=>rfl
   | some u=>obtain ⟨o,z⟩:=obj_some (I.hok a u q);rw [mk.new] at z;cases z
 have hn:s₀.heap.get? a=none:=by
   cases q:s₀.heap.get? a with
   | none=>rfl
   | some o=>obtain ⟨o',z⟩:=I.base.there a o q (by show a∉([]:List Addr);simp);rw [mk.new] at z;cases z
 have hfs:∀b∈frs (envOfC qual scope s₀.heap.objs.size f cd::outer),H b=none:=I1.stkFree
 refine leave_first (base:=base) (h₀:=s₀.heap) (H:=H) (L:=s₀.heap.objs.size) I1.ok.frames I1.stack rfl he rfl rfl rfl hn hu (fun b u e=>obj_some (I1.hok b u e)) (fun b o e=>I1.base.there b o e (by show b∉([]:List Addr);simp)) fun h' f1 l1 _=>?_
 have l2:Lft (s₀.heap.objs.size::frs outer) s₀.heap H a C h₁ h':=l1
 exact ⟨a,C,H,rfl,I1.os,I1.bare,un_left I1.base l2 (Heap.get?_none_of_le (Nat.le_refl _)),hok_left I1.hok l1 hfs,f1,hE⟩
theorem pass1 {P:Program}{w:World}{K:PySem.W.Frag}{mg:Str→Option Value}{base:Heap}{N:List Str}{qual:Str}{scope:Scope}{f:Addr}{cd:Value}{A:Around}{outer:List Env}{s₀:Shared}{H₀:Hp}{E:XK} :
   Passes (CX1 P w) (cxOf (CX1 P w) P w K mg base N qual scope f cd A outer s₀ H₀ E) E:=fun pins σ H s e s' I h=>by
 obtain ⟨a,C,H',rfl,os,bare,un,hok,fl,hE⟩:=h
 have I1:Inv (cxOf (CX1 P w) P w K mg base N qual scope f cd A outer s₀ H₀ E) pins σ H' s':=I.call' os un hok bare fun b hb=>absurd hb (by simp)
 exact xe_next I1 (fl.back fun b o e=>I.base.there b o e (by show b∉([]:List Addr);simp)) hE
end
abbrev R:=Ev→Sto→Option (Str×Sto)
def rSeq (c:C) (r:R):R:=fun ev S=>(c ev S).bind fun p=>match p.1 with
 | .nx e=>r e p.2
 | _=>none
def rIf (u:B) (a b:R):R:=fun ev S=>(u ev S).bind fun p=>if p.1=true then a ev p.2 else b ev p.2
def rNone:R:=fun _ _=>none
section
variable (K:PySem.W.Frag) (mg:Str→Option Value)
def tR (r:R) (σ:L2.St) (H:Hp) (E:XK):Prop:=∃ρ ev S c S',EnvR K mg ρ H ev σ∧StOk K mg ρ H S∧r ev S=some (c,S')∧∃C,mg c=some (.ref C)∧∀e ρ' H',Ext ρ H ρ' H'→StOk K mg ρ' H' S'→E e (some C) H'
end
def rOr (a b:R):R:=fun ev S=>(a ev S).or (b ev S)
theorem tR_or {K mg}{r1 r2:R}{σ:L2.St}{H:Hp}{E:XK} (h:tR K mg (rOr r1 r2) σ H E):tR K mg r1 σ H E∨tR K mg r2 σ H E:=by
 obtain ⟨ρ,ev,S,c,S',hE,hS,hf,k⟩:=h
 unfold rOr at hf
 cases q:r1 ev S with
 | none=>rw [q] at hf;exact .inr ⟨ρ,ev,S,c,S',hE,hS,hf,k⟩
 | some p=>rw [q] at hf;cases hf;exact .inl ⟨ρ,ev,S,c,S',hE,hS,q,k⟩
structure XE (X:Cx) (pins:List (Addr×Obj)) (σ:L2.St) (E:XK):Prop where
 first:∀{H s a C h₁ args},Inv X pins σ H s→Heap.MadeExcOf s.heap h₁ a (.ref C) args→E (.ref a) (some C) H→X.xe (.ref a) { s with heap:=h₁ }
 pass:∀{H s e s'},Inv X pins σ H s→CX1 X.prog X.w X.stack H s E e s'→X.xe e s'
def RS (X:Cx) (st:Stmt) (r:R):Prop:=∀(pins:List (Addr×Obj)) (s:Shared) (σ:L2.St) (H:Hp) (E:XK) (Q:Flow→Shared→Prop),XE X pins σ E→Inv X pins σ H s→tR X.K X.mg r σ H E→wpAny (model X.prog X.w) X.A (exec st X.env) Q X.xe s
def RSs (X:Cx) (sts:List Stmt) (r:R):Prop:=∀(pins:List (Addr×Obj)) (s:Shared) (σ:L2.St) (H:Hp) (E:XK) (Q:Flow→Shared→Prop),(∀σ,XE X pins σ E)→Inv X pins σ H s→tR X.K X.mg r σ H E→wpAny (model X.prog X.w) X.A (execs sts X.env) Q X.xe s
def RTs (X:Cx) (sts:List Stmt) (r:R):Prop:=∀(pins:List (Addr×Obj)) (s:Shared) (σ:L2.St) (H:Hp) (E:XK) (Q:Flow→Shared→Prop),XE X pins σ E→Inv X pins σ H s→tR X.K X.mg r σ H E→wpAny (model X.prog X.w) X.A (execs sts X.env) Q X.xe s
def RE (X:Cx) (e:Expr) (r:R):Prop:=∀(pins:List (Addr×Obj)) (s:Shared) (σ:L2.St) (H:Hp) (E:XK) (Q:Value→Shared→Prop),XE X pins σ E→Inv X pins σ H s→tR X.K X.mg r σ H E→wpAny (model X.prog X.w) X.A (eval e X.env) Q X.xe s
section
variable {X:Cx}{st:Stmt}{rest a b:List Stmt}{c:C}{u:B}{r r':R}{e:Expr}{es:List Expr}{pos p:Pos}
theorem zbs (h:RS X st r):RSs X (st::rest) r:=fun pins s σ H E Q hx I t=>wpAny_execs_cons (h pins s σ H E _ (hx σ) I t)
theorem rts_here (h:RS X st r):RTs X (st::rest) r:=fun pins s σ H E Q hx I t=>wpAny_execs_cons (h pins s σ H E _ hx I t)
theorem rss_or {r1 r2:R} (h1:RSs X rest r1) (h2:RSs X rest r2):RSs X rest (rOr r1 r2):=fun pins s σ H E Q hx I t=>by
 rcases tR_or t with t | t
 · exact h1 pins s σ H E Q hx I t
 · exact h2 pins s σ H E Q hx I t
theorem zfq (h1:FS X st c) (h2:RSs X rest r):RSs X (st::rest) (rSeq c r):=by
 intro pins s σ H E Q hx I t
 obtain ⟨ρ,ev,S,nm,S',hE,hS,hf,C,hC,k⟩:=t
 obtain ⟨⟨o,S1⟩,q1,hf⟩:=zaz hf
 cases o with
 | nx e1 =>
   refine wpAny_execs_cons (thn (h1 pins s σ H { nx:=fun σ' H'=>tR X.K X.mg r σ' H' E,rt:=fun _ _=>False,bk:=fun _ _=>False,ct:=fun _ _=>False } I ⟨ρ,ev,S,.nx e1,S1,hE,hS,q1,fun σ' ρ' H' E1 hS1 hE1=>⟨ρ',e1,S1,nm,S',hE1,hS1,hf,C,hC,fun e ρ2 H2 E2 hS2=>k e ρ2 H2 (E1.trans E2) hS2⟩⟩) fun f s1 q=>?_)
   cases f with
   | next =>
     obtain ⟨σ',H',I',q⟩:=q
     exact h2 pins s1 σ' H' E Q hx I' q
   | ret v=>obtain ⟨_,_,_,_,_,q⟩:=q;exact q.elim
   | brk=>obtain ⟨_,_,_,q⟩:=q;exact q.elim
   | cont=>obtain ⟨_,_,_,q⟩:=q;exact q.elim
 | _=>cases hf
theorem rs_if {cc:Expr} (hc:FB X cc u) (ha:RTs X a r) (hb:RTs X b r'):RS X (.If cc a b pos) (rIf u r r'):=by
 intro pins s σ H E Q hx I t
 obtain ⟨ρ,ev,S,nm,S',hE,hS,hf,C,hC,k⟩:=t
 obtain ⟨⟨d,S1⟩,q1,hf⟩:=zaz hf
 refine wpAny_If (thn (hc pins s σ H (fun d' H1=>d'=d∧∃ρ1,Ext ρ H ρ1 H1∧StOk X.K X.mg ρ1 H1 S1) I ⟨ρ,ev,S,d,S1,hE,hS,q1,fun ρ1 H1 E1 hS1=>⟨rfl,ρ1,E1,hS1⟩⟩) fun d' s1 ⟨H1,I1,ed,ρ1,E1,hS1⟩=>?_)
 subst ed
 cases d' with
 | true=>exact ha pins s1 σ H1 E Q hx I1 ⟨ρ1,ev,S1,nm,S',hE.mono E1,hS1,hf,C,hC,fun e ρ2 H2 E2 hS2=>k e ρ2 H2 (E1.trans E2) hS2⟩
 | false=>exact hb pins s1 σ H1 E Q hx I1 ⟨ρ1,ev,S1,nm,S',hE.mono E1,hS1,hf,C,hC,fun e ρ2 H2 E2 hS2=>k e ρ2 H2 (E1.trans E2) hS2⟩
theorem rss_if {cc:Expr} (hc:FB X cc u) (ha:RSs X a r) (hb:RSs X b r'):RSs X (.If cc a b pos::rest) (rIf u r r'):=by
 intro pins s σ H E Q hx I t
 obtain ⟨ρ,ev,S,nm,S',hE,hS,hf,C,hC,k⟩:=t
 obtain ⟨⟨d,S1⟩,q1,hf⟩:=zaz hf
 refine wpAny_execs_cons (wpAny_If (thn (hc pins s σ H (fun d' H1=>d'=d∧∃ρ1,Ext ρ H ρ1 H1∧StOk X.K X.mg ρ1 H1 S1) I ⟨ρ,ev,S,d,S1,hE,hS,q1,fun ρ1 H1 E1 hS1=>⟨rfl,ρ1,E1,hS1⟩⟩) fun d' s1 ⟨H1,I1,ed,ρ1,E1,hS1⟩=>?_))
 subst ed
 cases d' with
 | true=>exact ha pins s1 σ H1 E _ hx I1 ⟨ρ1,ev,S1,nm,S',hE.mono E1,hS1,hf,C,hC,fun e ρ2 H2 E2 hS2=>k e ρ2 H2 (E1.trans E2) hS2⟩
 | false=>exact hb pins s1 σ H1 E _ hx I1 ⟨ρ1,ev,S1,nm,S',hE.mono E1,hS1,hf,C,hC,fun e ρ2 H2 E2 hS2=>k e ρ2 H2 (E1.trans E2) hS2⟩
theorem rss_none:RSs X rest rNone:=fun pins s σ H E Q hx I t=>by
 obtain ⟨ρ,ev,S,nm,S',hE,hS,hf,_⟩:=t
 cases hf
theorem zcq (he:RE X e r) (hs:swapsWith e none pos.line X.env=pure false:=by rfl):RS X (.Expr e pos) r:=fun pins s σ H E Q hx I t=>wpAny_Expr_any (he pins s σ H E _ hx I t) I.quiet hs
end
abbrev GR:=List D→Sto→Option (Str×Sto)
def spR (K:PySem.W.Frag) (mg:Str→Option Value) (rr:GR):Sp:=fun vs H _ E=>∃ρ ds S c S',RepL K mg ρ H ds vs∧StOk K mg ρ H S∧rr ds S=some (c,S')∧∃C,mg c=some (.ref C)∧∀e ρ' H',Ext ρ H ρ' H'→StOk K mg ρ' H' S'→E e (some C) H'
structure RCal (P:Program) (w:World) (K:PySem.W.Frag) (mg:Str→Option Value) (base:Heap) (k:Nat) (x:Str) (g:GR):Prop where
 ex:∃(f:Addr) (fd:FuncData) (ps:List Str) (ds:List Value) (dvs:List V) (dds:List D) (gg:GR),FnOk P w K mg base (CX1 P w) k f fd ps (spR K mg gg)∧mg x=some (.ref f)∧PySem.W.keepIn K (.ref f)=true ∧
   Binds K fd ps ds∧Vals dvs ds∧(∀ρ H,RepL K mg ρ H dds dvs)∧∀args S r,g args S=some r→gg (args++dds) S=some r
def rCall (g:GR) (a:As):R:=fun ev S=>(a ev S).bind fun q=>g q.1 q.2
theorem run1 {X:Cx}{CX:CXT}{k:Nat}{f:Addr}{fd:FuncData}{ps:List Str}{sp:Sp}{dvs:List V}{ds:List Value}{E:XK}{pins:List (Addr×Obj)}{σ:L2.St}{H:Hp}{s:Shared}{Q:VK}{us:List Value}{vs:List V}
   (F:FnOk X.prog X.w X.K X.mg X.base CX k f fd ps sp) (hr:Room k X.A) (hb:Binds X.K fd ps ds) (hd:Vals dvs ds) (I:Inv X pins σ H s) (hx:∀e s',CX X.stack H s E e s'→X.xe e s') (r:Vals vs us) (h:sp (vs++dvs) H Q E) :
   wpAny (model X.prog X.w) X.A (call (.ref f) us) (EP X pins σ Q) X.xe s:=by
 have r2:=r.append hd
 have hl:(us++ds).length=ps.length:=r2.length.symm.trans (F.len _ _ _ _ h)
 refine wpAny_call (codeAny_mono (F.run X.A X.stack s H ⟨us,[]⟩ _ _ Q E hr I.env0 (hb s us I.kIn hl) r2 h) fun r s' hq=>?_)
 match r,hq with
 | .error e,hq=>exact hx e s' hq
 | .ok (.ret u),hq=>exact I.after hq
 | .ok .next,hq=>exact hq.elim
 | .ok .brk,hq=>exact hq.elim
 | .ok .cont,hq=>exact hq.elim
section
variable {X:Cx}{e:Expr}{es:List Expr}{pos p:Pos}{k:Nat}{x:Str}{g:GR}{a:As}
theorem zdt (cal:RCal X.prog X.w X.K X.mg X.base k x g) (hr:Room k X.A) (ha:FA X (e::es) a) (hg:Gl X x:=by rfl) (hdb:(x == ("__debug__":Str))=false:=by decide)
   (he:starEach (e::es) X.env=(false,eval e X.env)::starEach es X.env:=by exact zbp rfl) (hpl:(backTo pos (starEach es X.env)).any (·.1)=false:=by exact zck rfl) :
   RE X (.Call (.Name x p) (e::es) [] pos) (rCall g a):=by
 obtain ⟨f,fd,ps,ds,dvs,dds,gg,F,hm,hk,hb,hd,hdd,hgg⟩:=cal.ex
 intro pins s σ H E Q hx I t
 obtain ⟨ρ,ev,S,nm,S',hE,hS,hf,C,hC,kk⟩:=t
 obtain ⟨⟨ws,S1⟩,q1,hf⟩:=zaz hf
 have h:=ha pos pins s σ H (fun vs H1=>spR X.K X.mg gg (vs++dvs) H1 (fun _ _=>False) E) I ⟨ρ,ev,S,ws,S1,hE,hS,q1,fun vs ρ1 H1 E1 hS1 r1=>⟨ρ1,ws++dds,S1,nm,S',r1.append (hdd ρ1 H1),hS1,hgg ws S1 _ hf,C,hC,fun e ρ2 H2 E2 hS2=>kk e ρ2 H2 (E1.trans E2) hS2⟩⟩
 refine wpAny_Call_Name_kw (ld_glob I hg hm ?_ hdb)
 refine PySem.W.callWith_K (h₀:=X.base) I.ok.mod.kin hk (thn h fun us s1 ⟨vs,H1,I1,r,q⟩=>⟨I1.kIn,?_⟩) he hpl
 refine thn (run1 F hr hb hd I1 (fun e s' hc=>hx.pass I1 hc) r q) fun v s1 q=>?_
 obtain ⟨_,_,_,_,q⟩:=q
 exact q.elim
end
def zfd (N n:Nat) (r:R):GR:=fun ds S=>if ds.length=n then r (ds.map some++List.replicate (N - ds.length) none) S else none
theorem xe_of {P:Program}{w:World}{K:PySem.W.Frag}{mg:Str→Option Value}{base:Heap}{N:List Str}{qual:Str}{scope:Scope}{f:Addr}{cd:Value}{A:Around}{outer:List Env}{s₀:Shared}{H₀:Hp}{E:XK} :
   ∀pins σ,XE (cxOf (CX1 P w) P w K mg base N qual scope f cd A outer s₀ H₀ E) pins σ E:=fun _ _=>⟨fun I mk hE=>xe_first I mk hE,fun I h=>pass1 _ _ _ _ _ _ I h⟩
theorem FunD.rok {P:Program}{w:World}{K:PySem.W.Frag}{mg:Str→Option Value}{base:Heap}{x qual:Str}{st:Stmt}{f:Addr}{fd:FuncData}{dV:Value}{N ps:List Str}{k:Nat}{r:R} (F:FunD K x qual st f fd dV) (S:FnScope N ps (zab st))
   (hbody:∀(cdv:Value) (A:Around) (outer:List Env) (s:Shared) (H:Hp) (E:XK),Room k (A.deeper (envOfC qual (zab st) s.heap.objs.size f cdv)) →
     RSs (cxOf (CX1 P w) P w K mg base N qual (zab st) f cdv A outer s H E) (zaj st) r):FnOk P w K mg base (CX1 P w) (k + 1) f fd ps (spR K mg (zfd N.length ps.length r)):=by
 obtain ⟨oc,od,kV,doc,pm,an,cdv,ct,osl,rfl,lk,hcd⟩:=F.ex
 refine fn_of lk hcd S (fun vs H Q E h=>?_) fun A outer s H vs Q E hr hsp=>?_
 · obtain ⟨ρ,ds,S,c,S',r1,hS,hf,k⟩:=h
   unfold zfd at hf
   split at hf
   · rename_i hl
     rw [← r1.length];exact hl
   · cases hf
 · refine ⟨fun _ σ' H'=>tR K mg r σ' H' E,fun pins s1 σ1 H1 D I t=>hbody cdv A outer s H E hr pins s1 σ1 H1 E _ (xe_of pins) I t,?_⟩
   obtain ⟨ρ,ds,S,c,S',r1,hS,hf,kk⟩:=hsp
   unfold zfd at hf
   split at hf
   · rename_i hl
     have hs:=EnvR.start (N:=N) r1
     exact ⟨ρ,_,S,c,S',hs,hS,hf,kk⟩
   · cases hf
section
variable {X:Cx}{e:Expr}{pos pos':Pos}{r:R}{x:Str}
theorem rs_set (he:RE X e r) (hs:swapsWith e (some (.Name x pos')) pos.line X.env=pure false:=by rfl):RS X (.Assign [.Name x pos'] e pos) r:=fun pins s σ H E Q hx I t=>wpAny_Assign_Name (he pins s σ H E _ hx I t) hs
end
structure RMth (P:Program) (w:World) (K:PySem.W.Frag) (mg:Str→Option Value) (base:Heap) (k:Nat) (c m:Str) (g:GR):Prop where
 ex:∃(C f:Addr) (fd:FuncData) (ps:List Str) (ds:List Value) (dvs:List V) (dds:List D) (gg:GR),FnOk P w K mg base (CX1 P w) k f fd ps (spR K mg gg)∧mg c=some (.ref C)∧Cls K C∧Meth K C m f ∧
   Binds K fd ps ds∧Vals dvs ds∧(∀ρ H,RepL K mg ρ H dds dvs)∧∀args S r,g args S=some r→gg (args++dds) S=some r
def rMeth (c m:Str) (g:GR) (f:E) (a:As):R:=fun ev S=>(f ev S).bind fun p=>(zfp c p.2 p.1).bind fun q=>if q.2.lookup m=none then (a ev p.2).bind fun z=>g (.obj q.1::z.1) z.2 else none
section
variable {X:Cx}{k:Nat}{x c m n:Str}{g:GR}{e o:Expr}{es:List Expr}{a:As}{f:E}{p pos apos:Pos}
theorem re_meth (mt:RMth X.prog X.w X.K X.mg X.base k c m g) (hr:Room k X.A) (ho:FE X o f) (ha:FA X (e::es) a) {pl:Sem Bool}
   (hst:starEach (e::es) X.env=(false,eval e X.env)::starEach es X.env:=by exact zbp rfl) (hpl:(backTo pos (starEach es X.env)).any (·.1)=false:=by exact zck rfl)
   (ht:eval (.Call (.Attribute o m apos) (e::es) [] pos) X.env=(do
     let ov ← eval o X.env
     standAt apos.atName
     let (f,first) ← holding [ov] (getMethod ov m pl)
     callWith pos f first (backTo pos (starEach (e::es) X.env)) (backToKw pos (keywordEach [] X.env))):=by rfl) :
   RE X (.Call (.Attribute o m apos) (e::es) [] pos) (rMeth c m g f a):=by
 obtain ⟨C,fa,fd,ps,ds,dvs,dds,gg,F,hm,hc,hme,hb,hd,hdd,hgg⟩:=mt.ex
 intro pins s σ H E Q hx I t
 obtain ⟨ρ,ev,S,nm,S',hE,hS,hf,CC,hC,kk⟩:=t
 obtain ⟨⟨y,S1⟩,q1,hf1⟩:=zaz hf
 obtain ⟨⟨i,fs⟩,q2,hf2⟩:=zaz hf1
 dsimp only at hf2 q2
 split at hf2
 · rename_i hl
   obtain ⟨⟨ys,S2⟩,q3,hf3⟩:=zaz hf2
   obtain ⟨rfl,hi⟩:=insAt_eq q2
   have h0:=ho pins s σ H (fun x H1=>∃b dx fs,x=.ref b∧H1 b=some (.ins C dx fs)∧fs.lookup m=none∧tAs X.K X.mg a σ H1 fun vs H2=>spR X.K X.mg gg (x::(vs++dvs)) H2 (fun _ _=>False) E) I ⟨ρ,ev,S,_,S1,hE,hS,q1,fun v ρ1 H1 E1 hS1 r1=>by
     obtain ⟨b,C',dx,vs,rfl,hb1,hm',hb2,hb3⟩:=rep_obj hS1 hi r1
     have ec:C'=C:=by rw [hm] at hm';cases hm';rfl
     subst ec
     refine ⟨b,dx,vs,rfl,hb2,lookup_none hb3.1 hl,ρ1,ev,S1,ys,S2,hE.mono E1,hS1,q3,fun us ρ2 H2 E2 hS2 r2=>?_⟩
     refine ⟨ρ2,.obj i::ys++dds,S2,nm,S',?_,hS2,hgg _ S2 _ hf3,CC,hC,fun e ρ' H' E' hS'=>kk e ρ' H' ((E1.trans E2).trans E') hS'⟩
     exact RepL.cons (r1.mono E2) (r2.append (hdd ρ2 H2))⟩
   refine PySem.W.methodCall_KW (pl:=pl) (thn h0 fun u s1 ⟨x,H1,I1,rx,b,dx,fs,ex,ea,l,q⟩=>?_) ht
   subst ex
   cases (show u=Value.ref b from rx)
   refine getmeth_ok I1 ea hc hme l ?_
   refine PySem.W.callWith_K (first:=[.ref b]) (h₀:=X.base) I.ok.mod.kin hme.kp (thn (ha pos pins s1 σ H1 _ I1 q) fun us s2 ⟨vs,H2,I2,r,q2⟩=>⟨I2.kIn,?_⟩) hst hpl
   refine thn (run1 (us:=.ref b::us) (vs:=.ref b::vs) F hr hb hd I2 (fun e s' hc=>hx.pass I2 hc) (.cons rfl r) q2) fun v s1 q=>?_
   obtain ⟨_,_,_,_,q⟩:=q
   exact q.elim
 · cases hf2
end
def ExcCls (K:PySem.W.Frag) (mg:Str→Option Value) (c:Str):Prop :=
 ∃(C N:Addr) (nm q:Str) (bs bm bmB:List Value) (hdct:Bool) (sn:List Str) (sub:List Value) (ab:Bool) (col:Option Bool) (dd:Option Addr) (k0 k1 k2 k3 k5:Option Value) (B newId initId:String) (mN:Str→Option Value),
   mg c=some (.ref C)∧ExcBaseFacts B newId initId bmB∧bm.contains (.type "BaseException")=true∧mN "__init__"=none ∧
   ∀h:Heap,K.In h→h.get? C=some (excClassObj nm q C N bs bm hdct sn sub ab col dd k0 k1 k2 k3 k5 newId)∧h.Ns N mN∧OwnTail h bmB bm
def rRaise (c:Str) (a:As):R:=fun ev S=>(a ev S).bind fun q=>if q.1.length≤sizeLine then some (c,q.2) else none
section
variable {X:Cx}{e:Expr}{es:List Expr}{a:As}{c:Str}{np cpos pos:Pos}
theorem rs_raise (hc:ExcCls X.K X.mg c) (ha:FA X (e::es) a) (hg:Gl X c:=by rfl) (he:starEach (e::es) X.env=(false,eval e X.env)::starEach es X.env:=by exact zbp rfl) (hcm:X.calm=true:=by rfl) (hdb:(c == ("__debug__":Str))=false:=by decide) (hpl:(backTo cpos (starEach (e::es) X.env)).any (·.1)=false:=by exact zck rfl) :
   RS X (.Raise (some (.Call (.Name c np) (e::es) [] cpos)) none pos) (rRaise c a):=by
 obtain ⟨C,N,nm,q,bs,bm,bmB,hdct,sn,sub,ab,col,dd,k0,k1,k2,k3,k5,B,newId,initId,mN,hm,F,hb,hi,hk⟩:=hc
 intro pins s σ H E Q hx I t
 obtain ⟨ρ,ev,S,nm',S',hE,hS,hf,CC,hC,kk⟩:=t
 obtain ⟨⟨ws,S1⟩,q1,hf1⟩:=zaz hf
 dsimp only at hf1
 split at hf1
 · rename_i hl
   cases hf1
   rw [hm] at hC
   cases hC
   refine wpAny_Raise_call_subT (nm:=nm) (q:=q) (N:=N) (bs:=bs) (hdct:=hdct) (sn:=sn) (sub:=sub) (ab:=ab) (col:=col) (dd:=dd) (k0:=k0) (k1:=k1) (k2:=k2) (k3:=k3) (k5:=k5) F hb (I.ok.hd hcm) hpl hi (ld_glob I hg hm ⟨rfl,?_⟩ hdb)
   have hA:=ha cpos pins s σ H (fun vs H1=>vs.length≤sizeLine∧∃ρ1,Ext ρ H ρ1 H1∧StOk X.K X.mg ρ1 H1 S') I ⟨ρ,ev,S,ws,S',hE,hS,q1,fun vs ρ1 H1 E1 hS1 r1=>⟨by rw [← r1.length];exact hl,ρ1,E1,hS1⟩⟩
   rw [he] at hA ⊢
   refine Calls.evalArgs_plain (thn hA fun us s2 ⟨vs,H2,I2,r2,lv,ρ1,E1,hS1⟩=>?_)
   obtain ⟨z1,z2,z3⟩:=hk s2.heap I2.kIn
   exact ⟨rfl,by show us.length≤_;rw [← r2.length];exact lv,z1,z2,z3,fun h' e mk=>hx.first I2 mk (kk _ ρ1 H2 E1 hS1)⟩
 · cases hf1
end
end F
namespace F
open PySem L2 PySem.Spec PySem.Calls PyProof.Rows PySem.W
section
variable {prog:Program}{w:World}{A:Around}{E:Value→Shared→Prop}{s:Shared}{K:PySem.W.Frag}{x D:Addr}
structure ExcIs (K:PySem.W.Frag) (D:Addr):Prop where
 ga:findIn K (.ref D) "__getattribute__"=some (some (.builtin "BaseException.__getattribute__"))
 gn:findIn K (.ref D) "__getattr__"=some none
 ha:findIn K (.ref D) "__class__"=some (some (.builtin "object.__class__"))
 hn:specialIn K (.builtin "object.__class__") "__get__"=some (some (.builtin "getset_descriptor.__get__"))
 htk:takesIn K (.builtin "object.__class__")=some true
 hm:mroIn K D (.type "object")=some true
 hb:mroIn K D (.type "BaseException")=some true
 cl:(clsIn K D).isSome=true
def OfCls (x D:Addr) (h:Heap):Prop:=∃o,h.get? x=some o∧o.cls=.ref D
theorem OfCls.type {M:Model}{h:Heap} (I:OfCls x D h):Looks M h (typeOf (.ref x)) (.ref D):=by
 obtain ⟨o,h1,h2⟩:=I
 have L:=(Looks.ld (M:=M) (part:=some headPart) h1).andThen (f:=fun o=>pure o.cls) (b:=o.cls) .now
 rw [h2] at L;exact L
theorem exc_find {M:Model}{h:Heap} (X:K.In h) (Z:ExcIs K D):Looks M h (Builtin.ObjectAttr.find (.ref x) (.ref D) "__class__") (.bind (.builtin "getset_descriptor.__get__") (.builtin "object.__class__")):=by
 refine (looks_findIn X Z.ha).andThen ?_
 refine (show Looks M h (Builtin.ObjectAttr.getOf (some (.builtin "object.__class__"))) _ from looks_specialIn X Z.hn).andThen ?_
 have L3:Looks M h (Builtin.ObjectAttr.dataDescriptor? (some (.builtin "object.__class__")) (some (.builtin "getset_descriptor.__get__"))) (some (.builtin "getset_descriptor.__get__",.builtin "object.__class__")):=(looks_takesIn X Z.htk).andThen .now
 exact L3.andThen (Looks.tag .now)
theorem exc_get {R:Result→Shared→Prop}{tp:Value} (X:K.In s.heap) (I:OfCls x D s.heap) (Z:ExcIs K D) (h:R (.ok (.ret (.ref D))) s) :
   codeAny (model prog w) A (.call (.builtin "getset_descriptor.__get__") ⟨[.builtin "object.__class__",.ref x,tp],[]⟩) R s:=by
 obtain ⟨o,h1,h2⟩:=id I
 obtain ⟨hh,g,dr,t,os⟩:=s
 have L0:=I.type (M:=model prog w);have L1:=looks_mroIn (M:=model prog w) X Z.hm
 refine codeAny_call_builtin (KF.slot_gs.plain) (KF.entry_gs) (KF.slot_gs.check _ _ _ _ _ _ _ _ KF.type_class (KF.args_gs _ _ _) ?_)
 unfold Builtin.«getset_descriptor.__get__» Builtin.Getset_descriptor.descrGet;rw [dga_obj]
 refine wpAny_bind (wpAny_pure ?_);unfold Builtin.Getset_descriptor.descrGetter Builtin.Getset_descriptor.descrCheckInstance Builtin.Getset_descriptor.descrNameAndClass isInstance
 simp only [KF.owner_class];repeat lk
 refine ⟨Code.quiet_builtin _ (by decide +kernel),codeAny_builtin (KF.entry_class) ?_⟩;unfold Builtin.«object.__class__» shownTypeOf;(repeat lk);exact h
theorem exc_entry {tk:Tok}{Q:Fin→Shared→Prop} (X:K.In s.heap) (I:OfCls x D s.heap) (Z:ExcIs K D) (h:Q (.done (.ret (.ref D))) s) :
   wpAny (model prog w) A (Builtin.«object.__getattribute__» ⟨[.ref x,.str "__class__" tk],[]⟩) Q E s:=by
 obtain ⟨hh,g,d,t,os⟩:=s
 have L0:=I.type (M:=model prog w)
 have L1:=exc_find (M:=model prog w) (x:=x) X Z
 unfold Builtin.«object.__getattribute__»
 refine wpAny_bind (wpAny_pure (wpAny_bind (wpAny_pure (wpAny_bind (L0.at (wpAny_bind (L1.at ?_)))))))
 show wpAny _ _ (holding [.builtin "object.__class__"] (call (.builtin "getset_descriptor.__get__") [.builtin "object.__class__",.ref x,.ref D]) >>= ret) _ _ _
 exact wpAny_bind (wpAny_holding (wpAny_call (exc_get X I Z (wpAny_pure h))))
theorem exc_check {M:Model}{nameV:Value}{Q:Unit→Shared→Prop} (X:K.In s.heap) (I:OfCls x D s.heap) (Z:ExcIs K D) (hq:Q () s) :
   wpAny M A (checkBuiltinCall "BaseException.__getattribute__" ⟨[.ref x,nameV],[]⟩) Q E s:=by
 have hk:(builtinKind "BaseException.__getattribute__")=some .slot:=by decide +kernel
 have hsplit:(splitId "BaseException.__getattribute__")=some ("BaseException", "__getattribute__"):=by decide +kernel
 have ha:=PySem.F.args_bexc_ga (.ref x) nameV
 have LI:Looks M s.heap (isInstance (.ref x) (.type "BaseException")) true:=(I.type (M:=M)).andThen (looks_mroIn (M:=M) X Z.hb)
 simp only [checkBuiltinCall,hk,hsplit]
 refine wpAny_bind (LI.at ?_)
 repeat (any_goals (first | assumption | wp_step))
theorem exc_class {Q:Option Value→Shared→Prop} (X:K.In s.heap) (I:OfCls x D s.heap) (Z:ExcIs K D) (h:Q (some (.ref D)) { s with toks:=s.toks + 1 }) :
   wpAny (model prog w) A (getAttr? (.ref x) "__class__") Q E s:=by
 obtain ⟨hh,g,d,t,os⟩:=s
 have L0:=I.type (M:=model prog w)
 have L1:=looks_findIn (M:=model prog w) X Z.ga
 have L2:=looks_findIn (M:=model prog w) X Z.gn
 have f3:=PySem.F.attrBase_ValueError.ga.bind (.ref x)
 have hx2:(Value.builtin "BaseException.__getattribute__" == Value.builtin "object.__getattribute__")=false:=(by decide +kernel)
 unfold getAttr? getAttrBy? getAttrBy
 refine wpAny_bind (wpAny_mkText (wpAny_bind (wpAny_attempt (wpAny_holding (wpAny_bind (L0.at (wpAny_bind (L1.at (?_)))))))))
 show wpAny _ _ (if (true && Value.builtin "BaseException.__getattribute__" == Value.builtin "object.__getattribute__")=true then _ else _) _ _ _
 rw [hx2]
 simp only [Bool.and_false,Bool.false_eq_true,if_false]
 unfold getAttrByItsOwn hookBefore
 show wpAny _ _ ((do let before ← typeLookup (.ref D) "__getattr__";_):Sem Value) _ _ _
 refine wpAny_bind (L2.at ?_)
 refine wpAny_bind (wpAny_attempt (wpAny_holding ?_))
 unfold callGetattribute boundAndCalled
 simp only [Bool.false_and,Bool.false_eq_true,if_false,f3,pure_bind]
 refine wpAny_call (codeAny_call_builtin PySem.F.attrBase_ValueError.ga.plain PySem.F.entry_bexc_ga (exc_check X I Z (exc_entry X I Z ?_)))
 exact wpAny_pure (wpAny_pure h)
theorem kitx_exc (Z:ExcIs K D):KitX K (.ref x) (.ref D) (OfCls x D) where
 ty:=fun _ _ _ I=>I.type
 it:=fun M h X _=>by
   have z:=Z.cl
   unfold clsIn at z
   split at z
   · rename_i ho
     intro A' Q' E' s' k q
     exact wpAny_bind (wpAny_loadPart (k _ _ (X _ _ ho)) (wpAny_pure q))
   · cases z
 ne:=fun h tp dd its n sl X htp=>by
   have z:=Z.cl
   refine Bool.eq_false_iff.mpr fun q=>?_
   obtain rfl:D=tp:=Value.ref.inj (beq_iff_eq.mp q)
   unfold clsIn at z
   split at z
   · rename_i ho
     cases (X _ _ ho).symm.trans htp
   · cases z
 ca:=fun X I k=>exc_class X I Z k
end
end F
namespace F
open PySem L2 PySem.Spec PySem.Calls PyProof.Rows PySem.W
theorem find_erase {α:Type}{q:α→Bool}:∀(l:List α) (i:Nat) (x:α),l[i]? = some x→q x=false→(l.eraseIdx i).find? q=l.find? q
 | [],_,_,h,_=>by simp at h
 | a::l,0,x,h,hq=>by
   simp at h;subst h
   simp [List.find?_cons,hq]
 | a::l,i + 1,x,h,hq=>by
   rw [List.eraseIdx_cons_succ,List.find?_cons,List.find?_cons,find_erase l i x (by simpa using h) hq]
theorem isStr_ne {v:Value}{x y:Str} (h:v.isStr x=true) (n:y≠x):v.isStr y=false:=by
 cases v with
 | str z t =>
   have e:z=x:=by simpa [Value.isStr] using h
   subst e
   simpa [Value.isStr] using fun e=>n e.symm
 | _=>cases h
section
variable {M:Model}{A:Around}{E:Value→Shared→Prop}{s:Shared}
theorem del_ok {a:Addr}{m:Str→Option Value}{name:Str}{u:Value}{Q:Bool→Shared→Prop} (hn:s.heap.Ns a m) (hu:m name=some u)
   (hQ:∀h' m',h'.Ns a m'→(∀y,y≠name→m' y=m y)→Heap.SameBut a s.heap h'→Q true { s with heap:=h' }):wpAny M A (nsDel a name) Q E s:=by
 obtain ⟨o,es,ep,ho,hd,hk,hm⟩:=id hn
 obtain ⟨cl,d,dt,sl⟩:=o
 subst hd
 cases hi:es.findIdx? (·.key.isStr name) with
 | none =>
   have z:=hm name
   rw [hu] at z
   unfold nsFind at z
   rw [findBy_of_findIdx?,hi] at z
   cases z
 | some i =>
   have hq:es.any (·.key.isStr name)=true:=by
     obtain ⟨hlt,hp,_⟩:=Array.findIdx?_eq_some_iff_getElem.mp hi
     exact Array.any_eq_true.mpr ⟨i,hlt,hp⟩
   have hhas:nsHas name ⟨cl,d,.dict es ep,sl⟩=pure true:=by
     rw [nsHas_eq];unfold nsHasByArray
     simp only [hq,if_true]
   unfold nsDel
   refine wpAny_bind (wpAny_loadPart ho ?_)
   rw [hhas]
   refine wpAny_bind (wpAny_pure (wpAny_bind (wpAny_updatePart ho (wpAny_pure ?_))))
   refine hQ _ (fun y=>nsFind (es.eraseIdxIfInBounds i) y) ⟨_,_,ep + 1,Heap.get?_update_self _ ho ?_,?_,hk.erase i,fun _=>rfl⟩ (fun y hy=>?_) (Heap.SameBut.update ..)
   · simp only [Obj.dropName_eq,Obj.dropNameByArray,hi];rfl
   · simp only [Obj.dropName_eq,Obj.dropNameByArray,hi]
   · obtain ⟨hlt,hp,_⟩:=Array.findIdx?_eq_some_iff_getElem.mp hi
     rw [← hm y]
     unfold nsFind findBy
     refine congrArg (Option.map _) ?_
     obtain ⟨l⟩:=es
     have hl:i < l.length:=by simpa using hlt
     rw [Array.eraseIdxIfInBounds,dif_pos (by simpa using hl)]
     have e:=find_erase (q:=fun e:DictEntry=>e.key.isStr y) l i l[i] (List.getElem?_eq_getElem hl) (isStr_ne (by simpa using hp) hy)
     simpa using e
end
section
variable {X:Cx}{pins:List (Addr×Obj)}{σ:L2.St}{H:Hp}{s:Shared}
theorem goes_ok {M:Model}{A:Around}{E:Value→Shared→Prop}{i:Nat}{x:Str}{pos:Pos}{Q:Unit→Shared→Prop} (I:Inv X pins σ H s) (hN:X.N.Nodup) (hi:X.N[i]? = some x) (hx:X.env.scope.names.lookup x=some .local)
   (h:∀s',Inv X pins (σ.set i none) H s'→Q () s'):wpAny M A (do bindName X.env x .none;unbindBehindTheSuite X.env x pos) Q E s:=by
 refine wpAny_bind (wpAny_bindName (store_ok I hN hi (.inl hx) (show RelV .non .none from rfl) (fun s1 I1=>?_) (.inr hx)))
 have hcls:(X.env.scope.kind == .class || (X.env.scope.kind == .module && X.env.locals != X.env.globals))=false:=by rw [I.ok.kind];rfl
 have hk:X.env.kindOf x=some .local:=hx
 have hiσ:i < σ.length:=by rw [I.len];exact (List.getElem?_eq_some_iff.mp hi).1
 obtain ⟨m,hn,hl⟩:=id I1.loc
 obtain ⟨u,_,lk⟩:=hl i x .non hi (by rw [List.getElem?_set_self hiσ]) (.inl hx)
 have hu:m x=some u:=by
   rcases lk with ⟨_,e⟩ | ⟨k,_⟩
   · exact e
   · rw [hk] at k;rcases k with k | k <;> cases k
 unfold unbindBehindTheSuite
 refine wpAny_onRaise ?_
 unfold unbindName deleteName
 refine wpAny_bind (wpAny_point (wpAny_bind ?_))
 simp only [hk,hcls]
 rw [if_neg (by decide)]
 refine wpAny_bind (del_ok hn hu fun h2 m2 hn2 hm2 hs=>?_)
 simp only [Bool.not_true,Bool.false_eq_true,if_false]
 refine wpAny_pure (wpAny_point (h _ ?_))
 obtain ⟨oL,_,_,hoL,_⟩:=id hn
 have ne:∀{b:Addr}{o:Obj},X.s₀.heap.get? b=some o→b≠X.env.locals:=fun e=>Nat.ne_of_lt (Nat.lt_of_lt_of_le (Heap.lt_size e) I.ok.above)
 refine ⟨I1.ok,I1.os,I1.bare,⟨fun b o e n hb hx=>(hs.2 b (ne e)).trans (I1.base.keep b o e n hb hx),fun b o e n hb hx=>?_,I1.base.free,fun b o e hx=>?_,I1.base.tups,I1.base.frzs,I1.base.tbls⟩,⟨_,hn2,fun j y v' e1 e2 e3=>?_⟩,fun y c e=>?_,I1.free,I1.freeC,fun p hp=>?_,fun b ob e=>?_,by simpa using I1.len⟩
 · obtain ⟨sl,e1⟩:=I1.base.slot b o e n hb hx
   exact ⟨sl,(hs.2 b (ne e)).trans e1⟩
 · obtain ⟨o',e1⟩:=I1.base.there b o e hx
   exact ⟨o',(hs.2 b (ne e)).trans e1⟩
 · by_cases hj:j=i
   · subst hj
     rw [List.getElem?_set_self hiσ] at e2
     cases e2
   · rw [List.getElem?_set_ne (Ne.symm hj)] at e2
     obtain ⟨u',r',q⟩:=hl j y v' e1 (by rw [List.getElem?_set_ne (Ne.symm hj)];exact e2) e3
     refine ⟨u',r',?_⟩
     rcases q with ⟨k,e⟩ | ⟨k,c,e,z⟩
     · exact .inl ⟨k,(hm2 y fun e=>hj (nodup_ix hN e1 (e ▸ hi))).trans e⟩
     · exact .inr ⟨k,c,e,z.sameBut hs (I1.cne y c e)⟩
 · obtain ⟨w',z⟩:=I1.cell y c e
   exact ⟨w',z.sameBut hs (I1.cne y c e)⟩
 · obtain ⟨e,n,ne,nf,d⟩:=I1.pin p hp
   exact ⟨(hs.2 p.1 ne).trans e,n,ne,nf,d⟩
 · refine (I1.hok b ob e).stay (fun c w' hc q=>(hs.2 c ?_).trans q) (fun _ q=>q) fun _ _ q=>q
   rintro rfl
   rcases hc with rfl | hc
   · rw [I1.free] at e;cases e
   · rw [I1.free] at hc;cases hc
end
end F
namespace F
open PySem L2 PySem.Spec PySem.Calls PyProof.Rows PySem.W
theorem un_stay {fs:List Addr}{H₀ H:Hp}{a C:Addr}{h₀ h h':Heap} (u:Un fs [] H₀ H h₀ h) (l:Lft fs h₀ H a C h h'):Un fs [] H₀ H h₀ h' where
 keep:=fun b o e n nb hx=>l.keep b o (u.keep b o e n nb hx) nb (.inl ⟨_,e⟩)
 slot:=fun b o e n nb hx=>by
   obtain ⟨sl,q⟩:=u.slot b o e n nb hx
   obtain ⟨sl',q'⟩:=l.slot b _ q nb
   exact ⟨sl',q'⟩
 free:=u.free
 there:=fun b o e hx=>by
   obtain ⟨o',q⟩:=u.there b o e hx
   by_cases z:b∈fs
   · obtain ⟨sl,q'⟩:=l.slot b _ q z
     exact ⟨_,q'⟩
   · exact ⟨_,l.keep b _ q z (.inl ⟨_,e⟩)⟩
 tups:=u.tups
 frzs:=u.frzs
 tbls:=u.tbls
structure Mid (X:Cx) (H H':Hp) (s:Shared) (h:Heap) (a C:Addr):Prop where
 un:Un (frs X.stack) [] H H' s.heap h
 hok:HOk X.prog X.w H' h
 fly:Fly s.heap h H' a C
section
variable {X:Cx}{pins:List (Addr×Obj)}{σ:L2.St}{H H':Hp}{s s':Shared}{a C:Addr}{M:Model}{E:Value→Shared→Prop}{Q:Unit→Shared→Prop}
theorem Mid.inv {h:Heap} (m:Mid X H H' s h a C) (I:Inv X pins σ H s) (os:s'.os=s.os) (hg:AllBare s'.gens) (hh:s'.heap=h):Inv X pins σ H' s':=by
 subst hh
 exact I.call' os m.un m.hok hg fun b hb=>absurd hb (by simp)
theorem mid_next (m:Mid X H H' s s'.heap a C) (I:Inv X pins σ H s) (os:s'.os=s.os) (hg:AllBare s'.gens) (hst:X.stack=X.env::X.outer∧X.env.frame=some X.env.locals)
   (h:∀h',Mid X H H' s h' a C→Q () { s' with heap:=h' }):wpAny M X.A (leaving X.env (.ref a)) Q E s':=by
 have I1:=m.inv I os hg rfl
 have hfr:=I1.ok.frames
 have hl:=I1.stack
 rw [hst.1] at hfr hl
 refine leave_next (base:=X.base) (h₀:=s.heap) (H:=H') (L:=X.env.locals) hfr hl hst.2 m.fly (fun b u e=>obj_some (m.hok b u e)) (fun b o e=>m.un.there b o e (by simp)) fun h' f1 l1 _=>?_
 rw [← hst.1] at l1
 exact h h' ⟨un_stay m.un l1,hok_left m.hok l1 I1.stkFree,f1⟩
theorem mid_first {h₁:Heap}{args:List Value} (I:Inv X pins σ H s) (mk:Heap.MadeExcOf s.heap h₁ a (.ref C) args) (hst:X.stack=X.env::X.outer∧X.env.frame=some X.env.locals)
   (h:∀h',Mid X H H s h' a C→Q () { s with heap:=h' }):wpAny M X.A (leaving X.env (.ref a)) Q E { s with heap:=h₁ }:=by
 have I1:Inv X pins σ H { s with heap:=h₁ }:=I.kept (t':=s.toks) mk.keeps
 obtain ⟨t,he,_⟩:=mk.there
 have hu:H a=none:=by
   cases q:H a with
   | none=>rfl
   | some u=>obtain ⟨o,z⟩:=obj_some (I.hok a u q);rw [mk.new] at z;cases z
 have hfr:=I1.ok.frames
 have hl:=I1.stack
 rw [hst.1] at hfr hl
 refine leave_first (base:=X.base) (h₀:=s.heap) (H:=H) (L:=X.env.locals) hfr hl hst.2 he rfl rfl rfl mk.new hu (fun b u e=>obj_some (I1.hok b u e)) (fun b o e=>⟨o,mk.keeps b o e⟩) fun h' f1 l1 _=>?_
 rw [← hst.1] at l1
 exact h h' ⟨un_stay (Un.kept mk.keeps) l1,hok_left I1.hok l1 I1.stkFree,f1⟩
theorem mid_set {A:Around} (m:Mid X H H' s s'.heap a C) (I:Inv X pins σ H s) (os:s'.os=s.os) (hg:AllBare s'.gens)
   (h:∀h',Mid X H H' s h' a C→Q () { s' with heap:=h' }):wpAny M A (setFlight (.ref a) none) Q E s':=by
 have I1:=m.inv I os hg rfl
 obtain ⟨oe,vs,T,oT,ts,he,hc,hd,h1,hT0,hTH,hTa,hT,hdT,h3⟩:=m.fly.tr
 have h3s:3 < ts.size:=(Array.getElem?_eq_some_iff.mp h3).1
 unfold setFlight
 refine wpAny_bind (wpAny_field he hd h1 ?_)
 rw [if_pos (show (Value.ref T != Value.none)=true by simp)]
 refine wpAny_setField hT hdT h3s (h _ ?_)
 have oth:∀b,b≠T→(s'.heap.update T (Obj.mapFields (·.setIfInBounds 3 ((none:Option Addr).elim Value.none fun f=>rawInt f)))).get? b=s'.heap.get? b:=fun b hb=>Heap.get?_update_other _ _ (Ne.symm hb)
 have l1:Lft (frs X.stack) s.heap H' a C s'.heap (s'.heap.update T (Obj.mapFields (·.setIfInBounds 3 ((none:Option Addr).elim Value.none fun f=>rawInt f)))):=by
   refine ⟨fun b o e nb hb=>?_,fun b o e hb=>?_⟩
   · refine (oth b fun z=>?_).trans e
     subst z
     rcases hb with ⟨_,hb⟩ | ⟨_,hb⟩
     · rw [hT0] at hb;cases hb
     · rw [hTH] at hb;cases hb
   · refine ⟨o.slots,(oth b fun z=>?_).trans e⟩
     subst z
     obtain ⟨_,o2,ho2,hnf⟩:=I1.stack.mem hb
     rw [hT] at ho2;cases ho2
     exact hnf _ hdT
 refine ⟨un_stay m.un l1,hok_left m.hok l1 I1.stkFree,m.fly.new,m.fly.un,oe,vs,T,_,_,(oth a (Ne.symm hTa)).trans he,hc,hd,h1,hT0,hTH,hTa,Heap.get?_update_self _ hT (Obj.isFreed_of_fields (Obj.data_mapFields hdT _)),Obj.data_mapFields hdT _,by simp [h3s]⟩
theorem Mid.held {h:Heap} (m:Mid X H H' s h a C):Un (frs X.stack) [] H (upd H' a (.ext (OfCls a C))) s.heap h∧HOk X.prog X.w (upd H' a (.ext (OfCls a C))) h:=by
 have ne:∀{b:Addr}{o:HO},H' b=some o→b≠a:=fun e z=>by subst z;rw [m.fly.un] at e;cases e
 refine ⟨⟨m.un.keep,m.un.slot,fun b o e n hx=>?_,m.un.there,fun b xs e=>?_,fun b o u e=>?_,fun b ps e=>?_⟩,fun b u e=>?_⟩
 · rw [zcc (fun z=>by subst z;rw [m.fly.new] at e;cases e)]
   exact m.un.free b o e n hx
 · have q:=m.un.tups b xs e
   rw [zcc (ne q)];exact q
 · have q:=m.un.frzs b o u e
   rw [zcc (ne q)];exact q
 · obtain ⟨more,q⟩:=m.un.tbls b ps e
   exact ⟨more,by rw [zcc (ne q)];exact q⟩
 · by_cases hb:b=a
   · subst hb
     rw [zda] at e
     cases e
     obtain ⟨oe,vs,T,oT,ts,he,hc,hd,_⟩:=m.fly.tr
     refine ⟨⟨oe,he,hc⟩,⟨oe,he⟩,fun h1 h2 ⟨o,q1,q2⟩ k=>⟨o,k o q1,q2⟩⟩
   · rw [zcc hb] at e
     refine (m.hok b u e).stay (fun c w hc q=>q) (fun c q=>?_) fun c xs q=>?_
     · rw [zcc (ne q)];exact q
     · rw [zcc (ne q)];exact q
end
def Cat (K:PySem.W.Frag) (mg:Str→Option Value) (c T:Str):Prop :=
 ∃C CT,mg c=some (.ref C)∧mg T=some (.ref CT)∧mroIn K C (.ref CT)=some true∧mroIn K CT (.type "BaseException")=some true∧typeIn K (.ref CT)=some (.type "type")∧(clsIn K CT).isSome=true
section
variable {K:PySem.W.Frag}{A:Around}{E:Value→Shared→Prop}{s:Shared}{M:Model}{x C CT:Addr}
theorem exc_match {Q:Bool→Shared→Prop} (X:K.In s.heap) (I:OfCls x C s.heap) (h1:mroIn K C (.ref CT)=some true) (h2:mroIn K CT (.type "BaseException")=some true) (h3:typeIn K (.ref CT)=some (.type "type")) (h4:(clsIn K CT).isSome=true) (hq:Q true s) :
   wpAny M A (excMatches (.ref x) (.ref CT)) Q E s:=by
 have L0:=I.type (M:=M)
 have L1:=looks_mroIn (M:=M) X h1
 have L2:=looks_mroIn (M:=M) X h2
 have L3:=looks_typeIn (M:=M) X h3
 have L4:Looks M s.heap (isInstance (.ref CT) (.type "tuple")) false:=L3.andThen (Looks.of_pure tc_notTuple)
 have L5:Looks M s.heap (isType (.ref CT)) true:=by
   unfold clsIn at h4
   split at h4
   · rename_i ho
     intro A' Q' E' s' k q
     exact wpAny_bind (wpAny_loadPart (k _ _ (X _ _ ho)) (wpAny_pure q))
   · cases h4
 have L6:Looks M s.heap (isExcClass (.ref CT)) true:=by
   unfold isExcClass
   refine L5.andThen ?_
   rw [if_pos rfl];exact L2
 obtain ⟨hh,g,d,t,os⟩:=s
 unfold excMatches
 refine wpAny_bind (L4.at ?_)
 simp only [Bool.false_eq_true,if_false,pure_bind,List.forIn_cons,List.forIn_nil,bind_assoc]
 refine wpAny_bind (L6.at ?_)
 simp only [Bool.not_true,Bool.false_eq_true,if_false,pure_bind]
 refine wpAny_bind (L0.at ?_)
 refine wpAny_bind (L1.at ?_)
 simp only [if_true,pure_bind]
 exact wpAny_pure hq
end
end F
namespace F
open PySem L2 PySem.Spec PySem.Calls PyProof.Rows PySem.W
def sTry (c:C) (r:R) (cat:Str→Bool) (i:Nat) (d:C):C:=fun ev S=>match c ev S with
 | some (.nx e,S1)=>some (.nx e,S1)
 | some (.rt x,S1)=>some (.rt x,S1)
 | some _=>none
 | none=>(r ev S).bind fun p=>if cat p.1=true then (d (ev.set i (some (.obj p.2.length))) (p.2++[.exc p.1])).bind fun q=>(match q.1 with
   | .nx e=>some (.nx (e.set i none),q.2)
   | .rt x=>some (.rt x,q.2)
   | _=>none) else none
theorem EnvR.unset {K mg ρ H}{ev:Ev}{σ:L2.St} (h:EnvR K mg ρ H ev σ) (i:Nat):EnvR K mg ρ H (ev.set i none) (σ.set i none):=by
 refine ⟨by rw [List.length_set,List.length_set];exact h.len,fun j x q=>?_⟩
 by_cases hj:j=i
 · subst hj
   have hi:j < ev.length:=by
     have:=(List.getElem?_eq_some_iff.mp q).1
     rwa [List.length_set] at this
   rw [List.getElem?_set_self hi] at q
   cases q
 · rw [List.getElem?_set_ne (Ne.symm hj)] at q ⊢
   exact h.at_ j x q
abbrev Cx.inExc (X:Cx) (v:Option Value) (xe:Value→Shared→Prop):Cx:={ X with A:=X.A.mark v,calm:=false,xe:=xe }
section
variable {X:Cx}{pins:List (Addr×Obj)}{σ:L2.St}{H H':Hp}{s s':Shared}
theorem Inv.toExc (I:Inv X pins σ H s) (v:Option Value) (xe:Value→Shared→Prop):Inv (Cx.inExc X v xe) pins σ H s :=
 ⟨⟨I.ok.mod,I.ok.kind,I.ok.glob,I.ok.blt,I.ok.above,I.ok.inj,I.ok.has,I.ok.cab,(fun h=>nomatch h),I.ok.frames,I.ok.stk,I.ok.exf,I.ok.bs,I.ok.bsz,I.ok.noex,I.ok.exfs,I.ok.funs,I.ok.frf⟩,I.os,I.bare,I.base,I.loc,I.cell,I.free,I.freeC,I.pin,I.hok,I.len⟩
theorem Inv.ofExc {v:Option Value}{xe:Value→Shared→Prop} (I:Inv (Cx.inExc X v xe) pins σ H s) (ok:X.Ok):Inv X pins σ H s :=
 ⟨ok,I.os,I.bare,I.base,I.loc,I.cell,I.free,I.freeC,I.pin,I.hok,I.len⟩
variable {body suite:List Stmt}{b0:Stmt}{c d:C}{r:R}{T n:Str}{np pos' pos:Pos}{cat:Str→Bool}{Q:Flow→Shared→Prop}
theorem handler_ok {i:Nat}{H0:Hp}{ρ ρ':List Addr}{ev:Ev}{S1 S':Sto}{o:Out}{cls:Str}{a C:Addr}{D:Ends} (hs:∀v xe,FSs (Cx.inExc X v xe) (b0::suite) d) (hN:X.N.Nodup) (hi:X.N[i]? = some n) (hx:X.env.scope.names.lookup n=some .local)
   (hcat:Cat X.K X.mg cls T) (hg:Gl X T) (hdb:(T == ("__debug__":Str))=false) (I:Inv X pins σ H s) (m:Mid X H H' s s'.heap a C) (os:s'.os=s.os) (hb:AllBare s'.gens) (hE:EnvR X.K X.mg ρ H0 ev σ)
   (e1:Ext ρ H0 ρ' H') (hS:StOk X.K X.mg ρ' H' S1) (hC:X.mg cls=some (.ref C))
   (hf:((d (ev.set i (some (.obj S1.length))) (S1++[.exc cls])).bind fun q=>(match q.1 with
     | .nx e=>some (Out.nx (e.set i none),q.2)
     | .rt x=>some (.rt x,q.2)
     | _=>none))=some (o,S')) (k:Post X.K X.mg D S' ρ H0 o) :
   wpAny (model X.prog X.w) X.A (handleBy (.ref a) X.env [.ExceptHandler (some (.Name T np)) (some n) (b0::suite) pos']) (SP X pins D) X.xe s':=by
 obtain ⟨C',CT,hc1,hc2,h1,h2,h3,h4⟩:=hcat
 rw [hC] at hc1;cases hc1
 have I1:=m.inv I os hb rfl
 have Im:=Inv.toExc I1 (some (.ref a)) (notedBy (model X.prog X.w) (X.A.mark (some (.ref a))) X.env (cameBackBy (model X.prog X.w) X.A X.env X.xe))
 have oc:OfCls a C s'.heap:=by
   obtain ⟨oe,vs,T,oT,ts,he,hc,_⟩:=m.fly.tr
   exact ⟨oe,he,hc⟩
 refine wpAny_handleBy_cons (codeAny_handlers_test (ld_glob (X:=Cx.inExc X (some (.ref a)) _) Im hg hc2 (exc_match I1.kIn oc h1 h2 h3 h4 ?_) hdb)) (by intro q;cases q)
 refine codeAny_handlers_suite_as (mid_set m I os hb fun h6 m6=>?_)
 obtain ⟨un6,hok6⟩:=m6.held
 have I6:Inv X pins σ (upd H' a (.ext (OfCls a C))) { s' with heap:=h6 }:=I.call' os un6 hok6 hb fun b hb=>absurd hb (by simp)
 have I6m:=Inv.toExc I6 (some (.ref a)) (AsSuiteRaised (model X.prog X.w) (X.A.mark (some (.ref a))) X.env n pos' (notedBy (model X.prog X.w) (X.A.mark (some (.ref a))) X.env (cameBackBy (model X.prog X.w) X.A X.env X.xe)))
 refine store_ok (X:=Cx.inExc X (some (.ref a)) _) (v:=.ref a) I6m hN hi (.inl hx) rfl (fun s7 I7=>?_) (.inr hx)
 obtain ⟨⟨o2,S2⟩,q2,hf⟩:=zaz hf
 have e2:Ext ρ' H' (ρ'++[a]) (upd H' a (.ext (OfCls a C))):=ext_add hS _ m.fly.un
 have hS2:StOk X.K X.mg (ρ'++[a]) (upd H' a (.ext (OfCls a C))) (S1++[.exc cls]):=hS.add m.fly.un ⟨C,hC,zda⟩
 have hE2:EnvR X.K X.mg (ρ'++[a]) (upd H' a (.ext (OfCls a C))) (ev.set i (some (.obj S1.length))) (σ.set i (some (.ref a))):=by
   refine EnvR.set (hE.mono (e1.trans e2)) ?_ i
   unfold Rep
   refine ⟨a,rfl,?_⟩
   rw [List.getElem?_append_right (by rw [hS.len] <;> exact Nat.le_refl _),hS.len]
   simp
 have go:=hs (some (.ref a)) _ pins s7 _ _ { nx:=fun σ' H2=>D.nx (σ'.set i none) H2,rt:=D.rt,bk:=fun _ _=>False,ct:=fun _ _=>False } I7 ⟨_,_,_,o2,S2,hE2,hS2,q2,by
   cases o2 with
   | nx e=>cases hf;exact fun σ' ρ2 H2 x1 x2 x3=>k _ ρ2 H2 ((e1.trans e2).trans x1) x2 (x3.unset i)
   | rt x=>cases hf;exact fun v ρ2 H2 x1 x2 x3=>k v ρ2 H2 ((e1.trans e2).trans x1) x2 x3
   | _=>cases hf⟩
 refine thn go fun f s8 q=>?_
 cases f with
 | next =>
   obtain ⟨σ8,H8,I8,q⟩:=q
   exact goes_ok (Inv.ofExc I8 I.ok) hN hi hx fun s9 I9=>⟨_,H8,I9,q⟩
 | ret u =>
   obtain ⟨v,σ8,H8,I8,r8,q⟩:=q
   exact goes_ok (Inv.ofExc I8 I.ok) hN hi hx fun s9 I9=>⟨v,_,H8,I9,r8,q⟩
 | brk=>obtain ⟨_,_,_,q⟩:=q;exact q.elim
 | cont=>obtain ⟨_,_,_,q⟩:=q;exact q.elim
end
section
variable {M:Model}{A:Around}{E:Value→Shared→Prop}{s:Shared}{env:Env}
theorem try_leave {bd els:Sem Flow}{k₀:ExceptHandler}{ks:List ExceptHandler}{Q:Flow→Shared→Prop}
   (h:wpAny M A bd (fun f s₁=>match f with | .next=>wpAny M A els Q E s₁ | f=>Q f s₁) (fun e s₁=>wpAny M A (leaving env e) (fun _ s₂=>wpAny M A (handleBy e env (k₀::ks)) Q E s₂) E s₁) s) :
   wpAny M A (tryStmt false bd (k₀::ks) els [] env) Q E s:=by
 unfold tryStmt
 simp only [List.isEmpty_nil,if_true,List.isEmpty_cons,Bool.false_eq_true,if_false,Bool.false_and]
 refine wpAny_bind (wpAny_attempt (wpAny_mono h (fun f s₁ h₁=>?_) fun e s₁ h₁=>?_))
 · cases f <;> first | exact h₁ | exact wpAny_pure h₁
 · show wpAny M A (noteFrame e env >>= fun _=>setFlight e none >>= fun _=>handleBy e env (k₀::ks)) Q E s₁
   rw [← bind_assoc]
   exact wpAny_bind h₁
end
section
variable {X:Cx}{body suite:List Stmt}{b0:Stmt}{c d:C}{r:R}{T n:Str}{np pos' pos:Pos}{cat:Str→Bool}
theorem fs_try (i:Nat) (hb:∀xe,FSs (X.wish xe) body c) (hr:∀xe,RTs (X.wish xe) body r) (hs:∀v xe,FSs (Cx.inExc X v xe) (b0::suite) d) (hN:X.N.Nodup) (hcat:∀c,cat c=true→Cat X.K X.mg c T)
   (hi:X.N[i]? = some n:=by rfl) (hx:X.env.scope.names.lookup n=some .local:=by rfl) (hst:X.stack=X.env::X.outer∧X.env.frame=some X.env.locals:=by exact ⟨rfl,rfl⟩) (hg:Gl X T:=by rfl) (hdb:(T == ("__debug__":Str))=false:=by decide) :
   FS X (.Try body [.ExceptHandler (some (.Name T np)) (some n) (b0::suite) pos'] [] [] pos) (sTry c r cat i d):=by
 intro pins s σ H D I t
 obtain ⟨ρ,ev,S,o,S',hE,hS,hf,k⟩:=t
 rw [arm_exec_Try]
 refine wpAny_bind (wpAny_standAt (try_leave ?_))
 generalize hW:(fun e s₁=>wpAny (model X.prog X.w) X.A (leaving X.env e) (fun _ s₂=>wpAny (model X.prog X.w) X.A (handleBy e X.env [.ExceptHandler (some (.Name T np)) (some n) (b0::suite) pos']) (SP X pins D) X.xe s₂) X.xe s₁)=W
 unfold sTry at hf
 split at hf
 · rename_i e1 S1 q
   cases hf
   refine thn (hb W pins s σ H { nx:=D.nx,rt:=fun _ _=>False } (I.wish W) ⟨ρ,ev,S,.nx e1,_,hE,hS,q,k⟩) fun f s1 z=>?_
   cases f with
   | next =>
     obtain ⟨σ1,H1,I1,z⟩:=z
     exact wpAny_execs_nil ⟨σ1,H1,I1.unwish,z⟩
   | ret u=>obtain ⟨_,_,_,_,_,z⟩:=z;exact z.elim
   | brk=>obtain ⟨_,_,_,z⟩:=z;exact z.elim
   | cont=>obtain ⟨_,_,_,z⟩:=z;exact z.elim
 · rename_i x1 S1 q
   cases hf
   refine thn (hb W pins s σ H { nx:=fun _ _=>False,rt:=D.rt } (I.wish W) ⟨ρ,ev,S,.rt x1,_,hE,hS,q,k⟩) fun f s1 z=>?_
   cases f with
   | next=>obtain ⟨_,_,_,z⟩:=z;exact z.elim
   | ret u =>
     obtain ⟨v,σ1,H1,I1,r1,z⟩:=z
     exact ⟨v,σ1,H1,I1.unwish,r1,z⟩
   | brk=>obtain ⟨_,_,_,z⟩:=z;exact z.elim
   | cont=>obtain ⟨_,_,_,z⟩:=z;exact z.elim
 · cases hf
 · obtain ⟨⟨cls,S1⟩,q1,hf⟩:=zaz hf
   dsimp only at hf
   split at hf
   · rename_i hc
     have ct:=hcat cls hc
     obtain ⟨C,CT,hC,_⟩:=id ct
     refine hr W pins s σ H (fun e oC H'=>∃ρ',oC=some C∧Ext ρ H ρ' H'∧StOk X.K X.mg ρ' H' S1) _ ?_ (I.wish W) ⟨ρ,ev,S,cls,S1,hE,hS,q1,C,hC,fun e ρ' H' x1 x2=>⟨ρ',rfl,x1,x2⟩⟩
     subst hW
     refine ⟨fun {H1 s1 a C1 h₁ args} I1 mk hE1=>?_,fun {H1 s1 e s2} I1 hx1=>?_⟩
     · obtain ⟨ρ',rfl',x1,x2⟩:=hE1
       cases rfl'
       exact mid_first I1.unwish mk hst fun h' m=>handler_ok hs hN hi hx ct hg hdb I1.unwish m rfl I1.bare hE x1 x2 hC hf k
     · obtain ⟨a,C1,H',rfl,os,bare,un,hok,fl,ρ',rfl',x1,x2⟩:=hx1
       cases rfl'
       exact mid_next ⟨un,hok,fl⟩ I1.unwish os bare hst fun h' m=>handler_ok hs hN hi hx ct hg hdb I1.unwish m os bare hE x1 x2 hC hf k
   · cases hf
end
end F
namespace F
open PySem L2 PySem.Spec PySem.Calls PyProof.Rows PySem.W
def bmVal:List Value:=[.type "ValueError",.type "Exception",.type "BaseException",.type "object"]
theorem tail_has {K:PySem.W.Frag}:∀{l:List Value},tailIn K bmVal l=true→l.contains (.type "BaseException")=true
 | [],e=>by cases (beq_iff_eq.mp e)
 | v::r,e=>by
   unfold tailIn at e
   rcases Bool.or_eq_true_iff.mp e with q | q
   · rw [beq_iff_eq.mp q];decide +kernel
   · split at q
     · split at q
       · simp only [Bool.and_eq_true,beq_iff_eq] at q
         rw [List.contains_cons,tail_has q.2,Bool.or_true]
       · cases q
     · cases q
theorem exc_of {K:PySem.W.Frag}{mg:Str→Option Value}{c:Str}{C:Addr} (hm:mg c=some (.ref C)) (q:excIn K C bmVal "ValueError.__new__"=true):ExcCls K mg c:=by
 unfold excIn at q
 split at q
 · rename_i dd cd sl ho
   split at q
   · rename_i C' bm k0 k1 k2 k3 n k5 hmro hs
     simp only [Bool.and_eq_true,beq_iff_eq,Bool.not_eq_true'] at q
     obtain ⟨⟨⟨⟨⟨rfl,rfl⟩,hdel⟩,ht⟩,hok⟩,hni⟩:=q
     obtain ⟨nm,bs,mro,ns,qn,hd,sn,sub,ab,col,del⟩:=cd
     dsimp only at hmro hdel hok hni
     subst hmro;subst hdel
     have hsl:sl=#[k0,k1,k2,k3,some (.builtin "ValueError.__new__"),k5]:=by
       cases sl with
       | mk l=>simp only at hs;subst hs;rfl
     subst hsl
     unfold nsOkIn at hok
     split at hok
     · rename_i oc od es ep osl hN
       have hk:StrKeys es:=fun e he=>by
         have z:=Array.all_eq_true_iff_forall_mem.mp hok e he
         cases hkey:e.key with
         | str n t=>exact ⟨n,t,rfl⟩
         | _=>rw [hkey] at z;cases z
       have hi:nsFind es "__init__"=none:=by
         unfold nsIn at hni
         rw [hN] at hni
         dsimp only at hni
         split at hni
         · cases hni
         · rename_i he
           unfold nsFind findBy
           rw [← Array.find?_toList,he]
           rfl
       refine ⟨_,ns,nm,qn,bs,bm,bmVal,hd,sn,sub,ab,col,dd,k0,k1,k2,k3,k5, "ValueError", "ValueError.__new__", "ValueError.__init__",nsFind es,hm,PySem.F.excBase_ValueError,?_,hi,fun h X=>⟨X _ _ ho,⟨_,es,ep,X _ _ hN,rfl,hk,fun _=>rfl⟩,tail_of_in X ht⟩⟩
       exact tail_has ht
     · cases hok
   · cases q
 · cases q
def ExcI (K:PySem.W.Frag) (mg:Str→Option Value) (c:Str):Prop:=∃C,mg c=some (.ref C)∧ExcIs K C∧kitOne K (.ref C) (.type "ValueError")=some true
def IsF (K:PySem.W.Frag) (mg:Str→Option Value) (c d:Str) (b:Bool):Prop:=∃C D,mg c=some (.ref C)∧mg d=some (.ref D)∧kitOne K (.ref C) (.ref D)=some b
structure Up where
 raised:List Str
 asked:List Str
def Up.is (u:Up) (c d:Str):Option Bool:=if c∈u.raised∧d∈u.asked then some (decide (d=c∨d="ShelfError")) else none
def fnsOf:List D→Option (List Str)
 | []=>some []
 | .fn d::r=>(fnsOf r).map (d::·)
 | _=>none
def Up.any (u:Up) (c:Str):List Str→Option Bool
 | []=>some false
 | d::r=>(u.is c d).bind fun b=>if b=true then some true else u.any c r
def Up.ask (u:Up) (c:Str):D→Option Bool
 | .fn d=>u.is c d
 | .ty n=>if c∈u.raised∧n="ValueError" then some true else none
 | .tup ds=>if c∈u.raised then (fnsOf ds).bind (u.any c) else none
 | _=>none
def isiX (u:Up) (S:Sto):List D→Option D
 | [.obj i,d]=>match S[i]? with
   | some (.exc c)=>(u.ask c d).map .bl
   | _=>none
 | _=>none
def Up.cat (u:Up) (c:Str):Bool:=decide (c∈u.raised)
structure UpOk (K:PySem.W.Frag) (mg:Str→Option Value) (u:Up):Prop where
 ct:∀c∈u.raised,Cat K mg c "ShelfError"
 ei:∀c∈u.raised,ExcI K mg c
 is_:∀c∈u.raised,∀d∈u.asked,IsF K mg c d (decide (d=c∨d="ShelfError"))
section
variable {X:Cx}{e:Expr}{es:List Expr}{g:As}{p pos:Pos}{u:Up}
def rIsX (K:PySem.W.Frag) (mg:Str→Option Value):List V→Hp→VK→Prop:=fun xs H Q=>∃a C b y,xs=[.ref a,y]∧H a=some (.ext (OfCls a C))∧ExcIs K C ∧
 ((∃w,RelV y w∧(∀w',RelV y w'→w'=w)∧kitOne K (.ref C) w=some b)∨(∃q ys its,y=.ref q∧SqT K H q ys∧Vals ys its∧(∀its',Vals ys its'→its'=its)∧kitAny K (.ref C) its=some b))∧Q (.bl b) H
theorem call_isX:CallR X (.builtin "isinstance") (rIsX X.K X.mg):=by
 intro pins s σ H xs us Q I r h
 obtain ⟨a,C,b,y,rfl,ha,hz,hk,q⟩:=h
 obtain ⟨u1,u2,rfl,r1,r2⟩:∃u1 u2,us=[u1,u2]∧RelV (.ref a) u1∧RelV y u2:=by
   cases r with
   | cons p q =>
     cases q with
     | cons p' q'=>cases q';exact ⟨_,_,rfl,p,p'⟩
 cases (show u1=Value.ref a from r1)
 have oc:OfCls a C s.heap:=(I.hok a _ ha).1
 rcases hk with ⟨w,rw_,un,hk⟩ | ⟨q',ys,its,rfl,sq,vs,un,hk⟩
 · rw [un _ r2]
   exact kia_one (kitx_exc hz) I.kIn oc hk (fun z=>nomatch z) fun tk=>⟨.bl _,H,I.tok tk,rfl,q⟩
 · cases (show u2=Value.ref q' from r2)
   obtain ⟨its2,v2,⟨o,h1,h2,h3⟩,_⟩:=I.tuple sq
   rw [un _ v2] at h3
   obtain ⟨oc',od,odt,osl⟩:=o
   obtain ⟨n,h3⟩:=h3
   dsimp only at h2 h3
   subst h2;subst h3
   exact kia_tup (kitx_exc hz) I.kIn oc h1 hk (fun z=>nomatch z) fun tk=>⟨.bl _,H,I.tok tk,rfl,q⟩
theorem fns_ok {K:PySem.W.Frag}{mg:Str→Option Value}{ρ:List Addr}{H:Hp}:∀{ds:List D}{xs:List Str}{ys:List V},fnsOf ds=some xs→RepL K mg ρ H ds ys→∃as:List Addr,ys=as.map V.ref∧xs.map mg=as.map fun a=>some (Value.ref a)
 | [],xs,ys,e,r=>by
   unfold RepL at r;subst r
   cases e
   exact ⟨[],rfl,rfl⟩
 | d::ds,xs,ys,e,r=>by
   unfold RepL at r
   obtain ⟨v,r',rfl,h1,h2⟩:=r
   cases d with
   | fn d =>
     obtain ⟨l,e1,e2⟩:=mapS e
     subst e2
     unfold Rep at h1
     obtain ⟨A,rfl,hA⟩:=h1
     obtain ⟨as,q1,q2⟩:=fns_ok e1 h2
     exact ⟨A::as,by rw [q1];rfl,by rw [List.map_cons,List.map_cons,hA,q2]⟩
   | _=>cases e
theorem vals_refs:∀(as:List Addr),Vals (as.map V.ref) (as.map Value.ref)∧∀its,Vals (as.map V.ref) its→its=as.map Value.ref
 | []=>⟨.nil,fun its h=>by cases h;rfl⟩
 | a::as=>⟨.cons rfl (vals_refs as).1,fun its h=>by
   cases h with
   | cons p q=>rw [(vals_refs as).2 _ q,show _=Value.ref a from p];rfl⟩
theorem any_ok {K:PySem.W.Frag}{mg:Str→Option Value} (h:UpOk K mg u) {c:Str}{C:Addr} (hc:c∈u.raised) (hC:mg c=some (.ref C)):∀{xs:List Str}{as:List Addr}{b:Bool},xs.map mg=(as.map fun a=>some (Value.ref a))→u.any c xs=some b →
   kitAny K (.ref C) (as.map Value.ref)=some b
 | [],as,b,q,e=>by
   cases as with
   | nil=>cases e;rfl
   | cons _ _=>cases q
 | d::xs,as,b,q,e=>by
   cases as with
   | nil=>cases q
   | cons A as =>
     rw [List.map_cons,List.map_cons,List.cons.injEq] at q
     obtain ⟨b1,e1,e2⟩:=zaz e
     unfold Up.is at e1
     split at e1
     · rename_i hz
       obtain ⟨C',D',x1,x2,x3⟩:=h.is_ c hc d hz.2
       rw [hC] at x1;cases x1
       rw [q.1] at x2;cases x2
       rw [Option.some.inj e1] at x3
       unfold List.map kitAny
       rw [x3]
       cases b1 with
       | true=>rw [if_pos rfl] at e2;exact e2
       | false=>rw [if_neg (by decide)] at e2;exact any_ok h hc hC q.2 e2
     · cases e1
theorem snd_isX {K:PySem.W.Frag}{mg:Str→Option Value} (h:UpOk K mg u):SndA K mg (rIsX K mg) (isiX u):=by
 intro ρ H S xs ds d Q hS r e k
 unfold isiX at e
 split at e
 · rename_i i d'
   split at e
   · rename_i c hi
     obtain ⟨b,e1,e2⟩:=mapS e
     subst e2
     obtain ⟨v,w,rfl,r1,r2⟩:=two r
     unfold Rep at r1
     obtain ⟨a,rfl,ha⟩:=r1
     obtain ⟨C,hC,hH⟩:=hS.ob i _ a hi ha
     unfold Up.ask at e1
     split at e1
     · rename_i dn
       unfold Rep at r2
       obtain ⟨A,rfl,hA⟩:=r2
       unfold Up.is at e1
       split at e1
       · rename_i hz
         obtain ⟨C',D',x1,x2,x3⟩:=h.is_ c hz.1 dn hz.2
         rw [hC] at x1;cases x1
         rw [hA] at x2;cases x2
         rw [Option.some.inj e1] at x3
         obtain ⟨C',y1,y2,_⟩:=h.ei c hz.1
         rw [hC] at y1;cases y1
         exact ⟨a,C,b,_,rfl,hH,y2,.inl ⟨.ref A,rfl,fun _ z=>z,x3⟩,k _ H (Ext.refl _ _) hS rfl⟩
       · cases e1
     · rename_i n
       split at e1
       · rename_i hz
         cases e1
         obtain ⟨C',y1,y2,y3⟩:=h.ei c hz.1
         rw [hC] at y1;cases y1
         rw [show w=.ty n from r2,hz.2]
         exact ⟨a,C,true,_,rfl,hH,y2,.inl ⟨.type "ValueError",rfl,fun _ z=>z,y3⟩,k _ H (Ext.refl _ _) hS rfl⟩
       · cases e1
     · rename_i ds'
       split at e1
       · rename_i hz
         obtain ⟨xs,e1,e2⟩:=zaz e1
         obtain ⟨p,vs,rfl,tt,rl⟩:=r2.refT
         obtain ⟨as,q1,q2⟩:=fns_ok e1 rl
         obtain ⟨C',y1,y2,y3⟩:=h.ei c hz
         rw [hC] at y1;cases y1
         refine ⟨a,C,b,_,rfl,hH,y2,.inr ⟨p,vs,as.map Value.ref,rfl,tt.sq,?_,?_,any_ok h hz hC q2 e2⟩,k _ H (Ext.refl _ _) hS rfl⟩
         · rw [q1];exact (vals_refs as).1
         · rw [q1];exact (vals_refs as).2
       · cases e1
     · cases e1
   · cases e
 · cases e
theorem fe_isX (h:UpOk X.K X.mg u) (hm:X.mg "isinstance"=none) (ha:FA X (e::es) g) (hg:Gl X "isinstance":=by rfl) (he:starEach (e::es) X.env=(false,eval e X.env)::starEach es X.env:=by exact zbp rfl) (hpl:(backTo pos (starEach es X.env)).any (·.1)=false:=by exact zck rfl) :
   FE X (.Call (.Name "isinstance" p) (e::es) [] pos) (eA (isiX u) g) :=
 fe_blt call_isX (snd_isX h) hm (by with_unfolding_all rfl) ha hg (by decide) (by decide) he hpl
end
def fmtD:D→Option D
 | .int a=>if a.natAbs.log2 < 1920 then some (.str (toString a)) else none
 | .str x=>if x.length≤sizeLine then some (.str x) else none
 | _=>none
def catS:List Str→Str→Str
 | [],out=>out
 | x::r,out=>catS r (out++x)
def fitS:List Str→Str→Bool
 | [],out=>decide (out.length≤sizeLine)
 | x::r,out=>decide ((out++x).length≤sizeLine) && fitS r (out++x)
def eFmt (g:As):E:=fun ev S=>(g ev S).bind fun q=>(strsOf q.1).bind fun ys=>if fitS ys Str.empty=true then some (.str (catS ys Str.empty),q.2) else none
section
variable {X:Cx}{e:Expr}{es:List Expr}{f:E}{g:As}{pos:Pos}
theorem fe_fv (h:FE X e f):FE X (.FormattedValue e (-1) none pos) (e1 fmtD f):=by
 intro pins s σ H Q I t
 obtain ⟨ρ,ev,S,d,S',hE,hS,hf,k⟩:=t
 obtain ⟨⟨x,S1⟩,q1,hf⟩:=zaz hf
 obtain ⟨z,q2,hf⟩:=mapS hf
 cases hf
 refine wpAny_FormattedValue_plain (thn (h pins s σ H (fun v H1=>∃ρ1,Ext ρ H ρ1 H1∧StOk X.K X.mg ρ1 H1 S1∧Rep X.K X.mg ρ1 H1 x v) I ⟨ρ,ev,S,x,S1,hE,hS,q1,fun v ρ1 H1 a b c=>⟨ρ1,a,b,c⟩⟩) fun u s1 ⟨v,H1,I1,r,ρ1,a,b,c⟩=>?_)
 cases x with
 | int i =>
   dsimp only [fmtD] at q2
   split at q2
   · rename_i hd
     cases q2
     obtain rfl:v=.int i:=c
     obtain ⟨t,rfl⟩:=(show ∃t,u=Value.int i t from r)
     exact wpAny_formatField_int hd ⟨.str _,H1,I1.tok _,⟨_,rfl⟩,k _ ρ1 H1 a b rfl⟩
   · cases q2
 | str y =>
   dsimp only [fmtD] at q2
   split at q2
   · rename_i hd
     cases q2
     obtain rfl:v=.str y:=c
     obtain ⟨t,rfl⟩:=(show ∃t,u=Value.str y t from r)
     exact wpAny_formatField_str ⟨.str _,H1,I1,⟨_,rfl⟩,k _ ρ1 H1 a b rfl⟩ ⟨.str _,H1,I1.tok _,⟨_,rfl⟩,k _ ρ1 H1 a b rfl⟩ hd
   · cases q2
 | _=>cases q2
inductive FL (X:Cx):List Expr→As→Prop where
 | nil:FL X [] aN
 | cons {e:Expr}{es:List Expr}{f:E}{g:As} (h:FE X e f) (t:FL X es g):FL X (e::es) (aC f g)
theorem join_ok {es:List Expr}{g:As} (hl:FL X es g):∀{out:Str}{pins:List (Addr×Obj)}{s:Shared}{σ:L2.St}{H:Hp}{Q:VK}{ρ:List Addr}{ev:Ev}{S S':Sto}{ds:List D}{ys:List Str},Inv X pins σ H s→EnvR X.K X.mg ρ H ev σ→StOk X.K X.mg ρ H S →
   g ev S=some (ds,S')→strsOf ds=some ys→fitS ys out=true→(∀ρ' H',Ext ρ H ρ' H'→StOk X.K X.mg ρ' H' S'→Q (.str (catS ys out)) H')→wpAny (model X.prog X.w) X.A (joinParts out (evalEach es X.env)) (EP X pins σ Q) X.xe s:=by
 induction hl with
 | nil =>
   intro out pins s σ H Q ρ ev S S' ds ys I hE hS hg hs hf k
   cases hg;cases hs
   exact joinParts_nil ⟨.str _,H,I.tok _,⟨_,rfl⟩,k ρ H (Ext.refl _ _) hS⟩ (of_decide_eq_true hf)
 | @cons e es f g h t ih =>
   intro out pins s σ H Q ρ ev S S' ds ys I hE hS hg hs hf k
   obtain ⟨⟨x,S1⟩,q1,hg⟩:=zaz hg
   obtain ⟨⟨r,S2⟩,q2,hg⟩:=zaz hg
   cases hg
   cases x with
   | str y =>
     obtain ⟨ys',e1,e2⟩:∃ys',strsOf r=some ys'∧y::ys'=ys:=by
       unfold strsOf at hs
       obtain ⟨l,e1,e2⟩:=mapS hs
       exact ⟨l,e1,e2⟩
     subst e2
     unfold fitS at hf
     rw [Bool.and_eq_true] at hf
     refine joinParts_cons (thn (h pins s σ H (fun v H1=>∃ρ1,Ext ρ H ρ1 H1∧StOk X.K X.mg ρ1 H1 S1∧Rep X.K X.mg ρ1 H1 (.str y) v) I ⟨ρ,ev,S,_,S1,hE,hS,q1,fun v ρ1 H1 a b c=>⟨ρ1,a,b,c⟩⟩) fun u s1 ⟨v,H1,I1,r1,ρ1,a,b,c⟩=>?_)
     obtain rfl:v=.str y:=c
     obtain ⟨tk,rfl⟩:=(show ∃tk,u=Value.str y tk from r1)
     exact ⟨of_decide_eq_true hf.1,ih I1 (hE.mono a) b q2 e1 hf.2 fun ρ' H' x1 x2=>k ρ' H' (a.trans x1) x2⟩
   | _=>unfold strsOf at hs;cases hs
theorem fe_fstr {e2:Expr} (hl:FL X (e::e2::es) g):FE X (.JoinedStr (e::e2::es) pos) (eFmt g):=by
 intro pins s σ H Q I t
 obtain ⟨ρ,ev,S,d,S',hE,hS,hf,k⟩:=t
 obtain ⟨⟨ds,S1⟩,q1,hf⟩:=zaz hf
 obtain ⟨ys,q2,hf⟩:=zaz hf
 dsimp only at hf
 split at hf
 · rename_i hfit
   cases hf
   exact JoinedStr_many (join_ok hl I hE hS q1 q2 hfit fun ρ' H' x1 x2=>k _ ρ' H' x1 x2 rfl)
 · cases hf
end
section
variable {K:PySem.W.Frag}{mg:Str→Option Value}{h:Heap}
theorem dict_cls {C:Addr} (h8:hasDictIn K C=true):(clsIn K C).isSome=true:=by
 obtain ⟨cd,hc,_⟩:=any_some h8
 rw [hc];rfl
theorem has_exc (KX:K.In h) (G:h.Ns mainGlobals mg) {c:Str}{C:Addr} (a:nsIn K mainGlobals c=some (some (.ref C))) (q:excIn K C bmVal "ValueError.__new__"=true):ExcCls K mg c:=exc_of (mg_of KX G a) q
theorem has_ei (KX:K.In h) (G:h.Ns mainGlobals mg) {c:Str}{C:Addr} (a:nsIn K mainGlobals c=some (some (.ref C))) (h1:findIn K (.ref C) "__getattribute__"=some (some (.builtin "BaseException.__getattribute__"))) (h2:findIn K (.ref C) "__getattr__"=some none)
   (h3:findIn K (.ref C) "__class__"=some (some (.builtin "object.__class__"))) (h4:specialIn K (.builtin "object.__class__") "__get__"=some (some (.builtin "getset_descriptor.__get__"))) (h5:takesIn K (.builtin "object.__class__")=some true) (h6:mroIn K C (.type "object")=some true)
   (h7:mroIn K C (.type "BaseException")=some true) (h8:hasDictIn K C=true) (h9:kitOne K (.ref C) (.type "ValueError")=some true):ExcI K mg c:=⟨C,mg_of KX G a,⟨h1,h2,h3,h4,h5,h6,h7,dict_cls h8⟩,h9⟩
theorem has_is (KX:K.In h) (G:h.Ns mainGlobals mg) {c d:Str}{C D:Addr}{b:Bool} (a:nsIn K mainGlobals c=some (some (.ref C))) (a':nsIn K mainGlobals d=some (some (.ref D))) (q:kitOne K (.ref C) (.ref D)=some b):IsF K mg c d b:=⟨C,D,mg_of KX G a,mg_of KX G a',q⟩
theorem has_cat (KX:K.In h) (G:h.Ns mainGlobals mg) {c d:Str}{C D:Addr} (a:nsIn K mainGlobals c=some (some (.ref C))) (a':nsIn K mainGlobals d=some (some (.ref D))) (h1:mroIn K C (.ref D)=some true) (h2:mroIn K D (.type "BaseException")=some true)
   (h3:typeIn K (.ref D)=some (.type "type")) (h4:hasDictIn K D=true):Cat K mg c d:=⟨C,D,mg_of KX G a,mg_of KX G a',h1,h2,h3,dict_cls h4⟩
theorem has_val (KX:K.In h) (G:h.Ns mainGlobals mg) {c:Str}{C:Addr} (a:nsIn K mainGlobals c=some (some (.ref C))):∃f,mg c=some (.ref f):=⟨C,mg_of KX G a⟩
theorem is_of {c d:Str}{b:Bool} (h:IsF K mg c d b) (e:b=decide (d=c∨d="ShelfError"):=by decide +kernel):IsF K mg c d (decide (d=c∨d="ShelfError")):=e ▸ h
theorem all_nil {P:Str→Prop}:∀x∈([]:List Str),P x:=fun _ h=>nomatch h
theorem all_cons {P:Str→Prop}{a:Str}{l:List Str} (h:P a) (t:∀x∈l,P x):∀x∈a::l,P x:=fun x hx=>by
 rcases List.mem_cons.mp hx with rfl | hx
 · exact h
 · exact t x hx
theorem UpOk.cat {u:Up} (h:UpOk K mg u):∀c,u.cat c=true→Cat K mg c "ShelfError":=fun c e=>h.ct c (of_decide_eq_true e)
theorem boot_ValueError:bootBuiltins "ValueError"=some (.type "ValueError"):=by with_unfolding_all rfl
end
section
variable {P:Program}{w:World}{K:PySem.W.Frag}{mg:Str→Option Value}{base:Heap}{x c m qual:Str}{st:Stmt}{N ps:List Str}{k:Nat}{r:R}
def BodyR (P:Program) (w:World) (K:PySem.W.Frag) (mg:Str→Option Value) (base:Heap) (N:List Str) (qual:Str) (st:Stmt) (k:Nat) (r:R):Prop :=
 ∀(f:Addr) (cdv:Value) (A:Around) (outer:List Env) (s:Shared) (H:Hp) (E:XK),Room k (A.deeper (envOfC qual (zab st) s.heap.objs.size f cdv))→RSs (cxOf (CX1 P w) P w K mg base N qual (zab st) f cdv A outer s H E) (zaj st) r
theorem HasDef.rcal (h:HasDef K mg x st 0) (S:FnScope N ps (zab st)) (hb:Bnd0 x x st ps) (hbody:BodyR P w K mg base N x st k r):RCal P w K mg base (k + 1) x (zfd N.length ps.length r):=by
 obtain ⟨f,fd,dV,F,hm,rfl⟩:=h.ex
 exact ⟨f,fd,ps,[],[],[],_,F.rok S fun cdv A outer s H E hr=>hbody f cdv A outer s H E hr,hm,F.kp,F.binds0 hb,.nil,fun _ _=>RepL.nil,fun args S r e=>by rw [List.append_nil];exact e⟩
theorem HasMth.rmth (h:HasMth K mg c m qual st) (S:FnScope N ps (zab st)) (hb:Bnd0 m qual st ps) (hbody:BodyR P w K mg base N qual st k r):RMth P w K mg base (k + 1) c m (zfd N.length ps.length r):=by
 obtain ⟨C,f,fd,F,hm,hc,hme⟩:=h.ex
 exact ⟨C,f,fd,ps,[],[],[],_,F.rok S fun cdv A outer s H E hr=>hbody f cdv A outer s H E hr,hm,hc,hme,F.binds0 hb,.nil,fun _ _=>RepL.nil,fun args S r e=>by rw [List.append_nil];exact e⟩
end
end F
namespace F
open PySem L2 PySem.Spec PySem.Calls PyProof.Rows PySem.W
def negD:D→Option D
 | .int i=>some (.int (-i))
 | _=>none
theorem fe_neg {X:Cx}{e:Expr}{f:E}{pos:Pos} (h:FE X e f):FE X (.UnaryOp .USub e pos) (e1 negD f):=zct (pe_un un_neg h) fun σ H Q t=>by
 obtain ⟨ρ,ev,S,d,S',hE,hS,hf,k⟩:=t
 obtain ⟨⟨x,S1⟩,q1,hf⟩:=zaz hf
 obtain ⟨z,q2,hf⟩:=mapS hf
 cases hf
 cases x with
 | int i =>
   cases q2
   exact ⟨ρ,ev,S,_,S1,hE,hS,q1,fun v ρ1 H1 a b c=>⟨i,c,k _ ρ1 H1 a b rfl⟩⟩
 | _=>cases q2
end F
namespace F
open PySem L2 PySem.Spec PySem.Calls PyProof.Rows PySem.W
section
variable {X:Cx}{K:PySem.W.Frag}{mg:Str→Option Value}{e a b:Expr}{es:List Expr}{f g:E}{ga:As}{p pos:Pos}
def intD (_:Sto):List D→Option D
 | [.int i]=>some (.int i)
 | [.bl b]=>some (.int (if b then 1 else 0))
 | _=>none
theorem snd_int:SndA K mg (fun xs H Q=>(∃i,xs=[.int i]∧Q (.int i) H)∨∃k,xs=[.bl k]∧Q (.int (if k then 1 else 0)) H) intD:=by
 intro ρ H S xs ds d Q hS r e k
 unfold intD at e
 split at e
 · cases e
   obtain ⟨v,rfl,r1⟩:=one r
   exact .inl ⟨_,by rw [show v=.int _ from r1],k _ H (Ext.refl _ _) hS rfl⟩
 · cases e
   obtain ⟨v,rfl,r1⟩:=one r
   exact .inr ⟨_,by rw [show v=.bl _ from r1],k _ H (Ext.refl _ _) hS rfl⟩
 · cases e
theorem fe_intOf (hm:X.mg "int"=none) (ha:FA X (e::es) ga) (hg:Gl X "int":=by rfl) (he:starEach (e::es) X.env=(false,eval e X.env)::starEach es X.env:=by exact zbp rfl) (hpl:(backTo pos (starEach es X.env)).any (·.1)=false:=by exact zck rfl) :
   FE X (.Call (.Name "int" p) (e::es) [] pos) (eA intD ga):=fe_ty call_int1 snd_int hm boot_int ha hg (by decide) (by decide) he hpl
def strD (_:Sto):List D→Option D
 | [.int i]=>if i.natAbs.log2 < 1920 then some (.str (toString i)) else none
 | _=>none
def eRepL (g:As) (f:E):E:=fun ev S=>(g ev S).bind fun q=>(f ev q.2).bind fun r=>match r.1 with
 | .int k=>if q.1.length≤sizeLine∧-(2 ^ 63)≤k∧k < 2 ^ 63∧q.1.length * k.toNat≤sizeLine then some (.lst (List.replicate k.toNat q.1).flatten,r.2) else none
 | _=>none
theorem RepL.rep {ρ H}{ds:List D}{vs:List V} (h:RepL K mg ρ H ds vs):∀n:Nat,RepL K mg ρ H (List.replicate n ds).flatten (List.replicate n vs).flatten
 | 0=>RepL.nil
 | n + 1=>by
   rw [List.replicate_succ,List.replicate_succ,List.flatten_cons,List.flatten_cons]
   exact h.append (RepL.rep h n)
theorem fe_repL {p1:Pos} (ha:FA X es ga) (hb:FE X b f):FE X (.BinOp (.List es p1) .Mult b pos) (eRepL ga f) :=
 zct (pe_op op_rep (pe_lst ha) hb) fun σ H Q h=>by
   obtain ⟨ρ,ev,S,d,S',hE,hS,hf,k⟩:=h
   obtain ⟨⟨ds,S1⟩,q1,hf⟩:=zaz hf
   obtain ⟨⟨y,S2⟩,q2,hf⟩:=zaz hf
   cases y with
   | int m =>
     dsimp only at hf
     split at hf
     · rename_i hc
       cases hf
       refine ⟨ρ,ev,S,ds,S1,hE,hS,q1,fun vs ρ1 H1 E1 hS1 r1=>⟨by rw [← r1.length];exact hc.1,fun p hp=>?_⟩⟩
       have E2:=zei hS1 (.lst vs) hp
       refine ⟨ρ1,ev,S1,_,_,hE.mono (E1.trans E2),hS1.new _ hp,q2,fun v ρ2 H2 E3 hS2 r2=>?_⟩
       obtain rfl:v=.int m:=r2
       have hp2:H2 p=some (.lst vs):=E3.keep p _ zda (hS1.fresh hp)
       refine ⟨p,m,vs,rfl,rfl,hp2,hc.2.1,hc.2.2.1,by rw [← r1.length];exact hc.2.2.2,fun p' hp'=>?_⟩
       have E4:=zei hS2 (.lst (List.replicate m.toNat vs).flatten) hp'
       refine k _ ρ2 _ (((E1.trans E2).trans E3).trans E4) (hS2.new _ hp') (Rep.lst (s:=hS2) hp' ?_)
       exact RepL.rep (r1.mono (E2.trans E3)) _
     · cases hf
   | _=>cases hf
def repS (m:Nat) (x:Str):Str:=⟨(List.replicate m x.cps).foldl (·++·) #[]⟩
def opMulS:D→D→Option D
 | .str x,.int n=>if 1≤n∧n≤1000∧x.length≤1000 then some (.str (if (n == 1 || x.length == 0)=true then x else repS n.toNat x)) else none
 | _,_=>none
def rMulS:R2:=fun x y H Q=>∃z n,x=.str z∧y=.int n∧1≤n∧n≤1000∧z.length≤1000∧Q (.str (if (n == 1 || z.length == 0)=true then z else repS n.toNat z)) H
theorem op_mulS:OpR X (binaryOp .Mult) rMulS:=by
 intro pins s σ H x y v u Q I rx ry h
 obtain ⟨z,n,rfl,rfl,h1,h2,h3,q⟩:=h
 obtain ⟨t,rfl⟩:=rx
 obtain ⟨t',rfl⟩:=ry
 have hz:sizeLine=16777216:=sizeLine_eq
 have hmul:z.length * n.toNat≤1000000:=Nat.le_trans (Nat.mul_le_mul h3 (show n.toNat≤1000 by omega)) (by decide)
 refine P.mul_str ?_ ?_ ?_ ?_
 · rw [decide_eq_false (by omega),decide_eq_false (by omega)];rfl
 · intro _ _
   have:(1000:Int)≤(2 ^ 63 - 1) / n:=by
     rw [Int.le_ediv_iff_mul_le (by omega)];omega
   omega
 · intro _ _
   show decide (z.length * n.toNat > sizeLine)=false
   exact decide_eq_false (by omega)
 · rw [if_neg (by omega)]
   split
   · rename_i hc
     rw [if_pos hc] at q
     exact ⟨.str z,H,I,⟨_,rfl⟩,q⟩
   · rename_i hc
     rw [if_neg hc] at q
     refine ⟨?_,⟨.str _,H,I.tok _,⟨_,rfl⟩,q⟩⟩
     show (repS n.toNat z).length≤sizeLine
     have len:∀m:Nat,(repS m z).length=m * z.length:=fun m=>by
       have gen:∀(m:Nat) (acc:Array Nat),((List.replicate m z.cps).foldl (·++·) acc).size=acc.size + m * z.cps.size:=fun m=>by
         induction m with
         | zero=>intro acc;simp
         | succ m ih=>intro acc;rw [List.replicate_succ,List.foldl_cons,ih,Array.size_append,Nat.succ_mul];omega
       have:=gen m #[]
       simpa [repS,Str.length] using this
     rw [len,Nat.mul_comm];omega
theorem snd_mulS:Snd2 K mg rMulS (fun _=>opMulS):=by
 intro ρ H S x y dx dy d Q hS rx ry e k
 change opMulS dx dy=some d at e
 unfold opMulS at e
 split at e
 · split at e
   · rename_i hc
     cases e
     exact ⟨_,_,rx,ry,hc.1,hc.2.1,hc.2.2,k _ H (Ext.refl _ _) hS rfl⟩
   · cases e
 · cases e
theorem fe_mulS (ha:FE X a f) (hb:FE X b g):FE X (.BinOp a .Mult b pos) (e2 opMulS f g):=fe_bin op_mulS snd_mulS ha hb
end
end F
namespace F
open PySem L2 PySem.Spec PyProof.Rows PySem.W
def H0 (ts:List Addr) (so:Option (Addr×HO)):Hp:=fun b=>if b∈ts then some (.tbl #[]) else match so with
 | some (a,o)=>if b=a then some o else none
 | none=>none
end F
namespace F
open PySem L2 PySem.Spec PyProof.Rows PySem.W
section
variable {K:Frag}{h:Heap}{mg:Str→Option Value} (X:K.In h) (G:h.Ns mainGlobals mg)
include X G
end
end F
namespace F
open PySem L2 PySem.Spec PySem.Calls PyProof.Rows PySem.W
section
variable {X:Cx}{K:Frag}{mg:Str→Option Value}{e e1 e2 o:Expr}{f g h:E}{pos apos spos:Pos}
def rInsert:V→List V→Hp→VK→Prop:=fun x vs H Q=>∃l xs i y,x=.ref l∧vs=[.int i,y]∧H l=some (.lst xs)∧0≤i∧i≤xs.length∧xs.length < sizeLine∧Q .non (upd H l (.lst (xs.take i.toNat++y::xs.drop i.toNat)))
theorem mt_insert:MtM X "list.insert" rInsert:=by
 intro pins s σ H x vs v us Q I rx rv h
 obtain ⟨l,xs,i,y,rfl,rfl,hH,h0,h1,hz,q⟩:=h
 cases rx
 obtain ⟨u1,u2,rfl,ru1,ru2⟩:∃u1 u2,us=[u1,u2]∧RelV (.int i) u1∧RelV y u2:=by
   cases rv with
   | cons a b=>cases b with
     | cons c d=>cases d;exact ⟨_,_,rfl,a,c⟩
 obtain ⟨t,rfl⟩:=ru1
 obtain ⟨z,its,n,r,hl,e⟩:=I.lstM hH
 have hs:sizeLine=16777216:=sizeLine_eq
 have fit:¬ (!Builtin.List.listFitsIndex i)=true:=by
   have:=fitsIndex_both (k:=i) (by omega) (by omega)
   simp [this]
 refine call_meets PySem.F.slot_list_insert ⟨_,e,rfl⟩ PySem.F.entry_list_insert (PySem.F.args_list_insert_3 _ _ _) (AutoSeq1.list_insert_list_int_val_1 l its.toArray n i t u2 fit (by rw [List.size_toArray];omega)) ⟨e,?_⟩
 refine ⟨.non,_,I.lset (its':=its.take i.toNat++u2::its.drop i.toNat) hH e ?_ ((r.take _).append (.cons ru2 (r.drop _))) ?_,rfl,q⟩
 · have hk:(if i < 0 then (i + (its.toArray.size:Int)).toNat else min i.toNat its.toArray.size)=i.toNat:=by
     rw [if_neg (by omega),List.size_toArray];omega
   simp only [hk]
   apply Array.toList_inj.mp
   simp [Array.toList_extract,List.extract_eq_drop_take,List.take_of_length_le]
 · rw [List.length_append,List.length_cons,List.length_take,List.length_drop];omega
def eLm (op:List D→List D→Option (D×List D)) (f:E) (a:As):E:=fun ev S=>(f ev S).bind fun p=>match p.1 with
 | .obj i=>(match p.2[i]? with
   | some (.lst _)=>(a ev p.2).bind fun q=>(match q.2[i]? with
     | some (.lst ds)=>(op ds q.1).map fun r=>(r.1,q.2.set i (.lst r.2))
     | _=>none)
   | _=>none)
 | _=>none
def LmOk (K:Frag) (mg:Str→Option Value) (r:V→List V→Hp→VK→Prop) (op:List D→List D→Option (D×List D)):Prop :=
 ∀(ρ:List Addr) (H:Hp) (S:Sto) (p:Addr) (us vs:List V) (ds args ds':List D) (d:D) (Q:VK),StOk K mg ρ H S→H p=some (.lst us)→RepL K mg ρ H ds us→RepL K mg ρ H args vs→op ds args=some (d,ds') →
   (∀v us',RepL K mg ρ H ds' us'→Rep K mg ρ H d v→Q v (upd H p (.lst us')))→r (.ref p) vs H Q
theorem fe_lm {name:Str}{id:String}{r:V→List V→Hp→VK→Prop}{op:List D→List D→Option (D×List D)}{es:List Expr}{a:As} (hm:MtM X id r) (slot:Slot "list" name id) (hty:typeOf (.builtin id)=pure (.type "method_descriptor")) (ok:LmOk X.K X.mg r op) (ho:FE X o f) (ha:FA X (e::es) a)
   (hbase:attributeBase o name X.env (eval o X.env)=eval o X.env:=by rfl)
   (hfew:((backTo pos (starEach (e::es) X.env)).all (fun x=>!x.1) && (backToKw pos (keywordEach [] X.env)).all (fun x=>x.1.isSome)
     && decide ((e::es).length + ([]:List Keyword).length + (if ([]:List Keyword).isEmpty then 0 else 1) < 30))=true:=by rfl)
   (hline:(apos.endLine == pos.line)=true:=by rfl) (hs:starEach (e::es) X.env=(false,eval e X.env)::starEach es X.env:=by exact zbp rfl) (hplain:(backTo pos (starEach es X.env)).any (·.1)=false:=by exact zck rfl) :
   FE X (.Call (.Attribute o name apos) (e::es) [] pos) (eLm op f a) :=
 zct (pe_bm PySem.F.plainAttrs_list slot hty hm ho ha hbase hfew hline hs hplain) fun σ H Q h=>by
   obtain ⟨ρ,ev,S,d,S',hE,hS,hf,k⟩:=h
   obtain ⟨⟨x,S1⟩,q1,hf⟩:=zaz hf
   cases x with
   | obj i =>
     dsimp only at hf
     split at hf
     · rename_i ds0 hd0
       obtain ⟨⟨as,S2⟩,q2,hf⟩:=zaz hf
       dsimp only at hf
       split at hf
       · rename_i ds hd
         obtain ⟨⟨z,ds'⟩,q3,hf⟩:=mapS hf
         cases hf
         refine ⟨ρ,ev,S,_,S1,hE,hS,q1,fun v ρ1 H1 E1 hS1 r1=>?_⟩
         have r1':=r1
         unfold Rep at r1'
         obtain ⟨p,rfl,hp⟩:=r1'
         obtain ⟨us0,hu0,_⟩:=hS1.ob i _ p hd0 hp
         refine ⟨.inl ⟨rfl,_,SqL.of hu0⟩,ρ1,ev,S1,as,S2,hE.mono E1,hS1,q2,fun vs ρ2 H2 E2 hS2 r2=>?_⟩
         have hp2:=E2.pre _ _ hp
         obtain ⟨us,h2,h3⟩:=hS2.ob i _ p hd hp2
         refine ok ρ2 H2 S2 p us vs ds as ds' _ Q hS2 h2 h3 r2 q3 fun w us' r4 r5=>?_
         have e0:=ext_set hS2 (.lst us') hp2
         exact k w ρ2 _ ((E1.trans E2).trans e0) (hS2.set hp2 ⟨_,zda,r4.mono e0⟩) (r5.mono e0)
       · cases hf
     · cases hf
   | _=>cases hf
def opInsert (ds:List D):List D→Option (D×List D)
 | [.int i,x]=>if 0≤i∧i≤ds.length∧ds.length < sizeLine then some (.non,ds.take i.toNat++x::ds.drop i.toNat) else none
 | _=>none
theorem insert_ok:LmOk K mg rInsert opInsert:=by
 intro ρ H S p us vs ds args ds' d Q hS hp r ra e k
 unfold opInsert at e
 split at e
 · rename_i i x
   split at e
   · rename_i hc
     cases e
     obtain ⟨v,w,rfl,r1,r2⟩:=two ra
     obtain rfl:v=.int i:=r1
     have hl:=r.length
     exact ⟨p,us,i,w,rfl,rfl,hp,hc.1,by rw [← hl];exact hc.2.1,by rw [← hl];exact hc.2.2,k _ _ ((r.take _).append (RepL.cons r2 (r.drop _))) rfl⟩
   · cases e
 · cases e
def opPopAt (ds:List D):List D→Option (D×List D)
 | [.int i]=>if 0≤i∧i < ds.length∧i < 2 ^ 63 then (ds[i.toNat]?).map fun x=>(x,ds.eraseIdx i.toNat) else none
 | _=>none
theorem RepL.eraseIdx {ρ H}:∀{ds:List D}{vs:List V} (n:Nat),RepL K mg ρ H ds vs→RepL K mg ρ H (ds.eraseIdx n) (vs.eraseIdx n)
 | [],_,n,h=>by unfold RepL at h;subst h;exact RepL.nil
 | d::ds,_,0,h=>by
   unfold RepL at h
   obtain ⟨v,r,rfl,_,h2⟩:=h
   exact h2
 | d::ds,_,n + 1,h=>by
   unfold RepL at h
   obtain ⟨v,r,rfl,h1,h2⟩:=h
   exact RepL.cons h1 (RepL.eraseIdx n h2)
theorem popAt_ok:LmOk K mg rPopAt opPopAt:=by
 intro ρ H S p us vs ds args ds' d Q hS hp r ra e k
 unfold opPopAt at e
 split at e
 · rename_i i
   split at e
   · rename_i hc
     obtain ⟨x,hx,e⟩:=mapS e
     cases e
     obtain ⟨v,rfl,r1⟩:=one ra
     obtain rfl:v=.int i:=r1
     have hl:=r.length
     obtain ⟨w,hw,rw'⟩:=r.get hx
     have hi:i.toNat < us.length:=(List.getElem?_eq_some_iff.mp hw).1
     have hsq:seqIndex? i us.length=some i.toNat:=by
       have e1:ixN us.length i=some i.toNat:=by unfold ixN;rw [if_pos hc.1,if_pos (by rw [← hl];exact hc.2.1)]
       exact (ixN_seq e1).1
     exact ⟨p,us,i,i.toNat,w,rfl,rfl,hp,by omega,hc.2.2,hsq,hw,k _ _ (r.eraseIdx _) rw'⟩
   · cases e
 · cases e
end
end F
namespace F
open PySem L2 PySem.Spec PySem.Calls PyProof.Rows PySem.W
def onC (H H0:Hp) (cl:List (Str×Addr)):Hp:=fun b=>if b∈cl.map (·.2) then H0 b else H b
end F
namespace F
open PySem L2 PySem.Spec PySem.Calls PyProof.Rows PySem.W
def trk (H:Hp) (h:Heap) (cl:List (Str×Addr)):Hp:=onC H (fun b=>(h.get? b).map fun o=>.frz o (.own 0)) cl
end F
namespace F
open PySem L2 PySem.Spec PyProof.Rows
def eListW (g:As):E:=fun ev S=>(g ev S).bind fun q=>match q.1 with
 | [.tup ds]=>some (.lst ds,q.2)
 | [.lst ds]=>some (.lst ds,q.2)
 | [.obj i]=>(match q.2[i]? with
   | some (.lst ds)=>some (.lst ds,q.2)
   | _=>none)
 | _=>none
section
variable {X:Cx}{e:Expr}{es:List Expr}{f:E}{g:As}{p pos:Pos}
theorem fe_listW (hm:X.mg "list"=none) (ha:FA X (e::es) g) (hg:Gl X "list":=by rfl) (he:starEach (e::es) X.env=(false,eval e X.env)::starEach es X.env:=by exact zbp rfl) (hpl:(backTo pos (starEach es X.env)).any (·.1)=false:=by exact zck rfl):FE X (.Call (.Name "list" p) (e::es) [] pos) (eListW g) :=
 zct (pe_callTy call_list_of hg hm boot_list ha (by decide) (by decide) he hpl) fun σ H Q h=>by
   obtain ⟨ρ,ev,S,d,S',hE,hS,hf,k⟩:=h
   obtain ⟨⟨x,S1⟩,q1,hf⟩:=zaz hf
   refine ⟨ρ,ev,S,x,S1,hE,hS,q1,fun vs ρ1 H1 E1 hS1 r1=>?_⟩
   have fin:∀{us:List V}{ds:List D},RepL X.K X.mg ρ1 H1 ds us→(d,S')=(D.lst ds,S1)→∀l,H1 l=none→Q (.ref l) (upd H1 l (.lst us)):=by
     intro us ds r e l hl
     cases e
     exact k _ ρ1 _ (E1.trans (zei hS1 _ hl)) (hS1.new _ hl) (Rep.lst (s:=hS1) hl r)
   dsimp only at hf
   split at hf
   · obtain ⟨v,rfl,r⟩:=one r1
     obtain ⟨b,us,rfl,t,r⟩:=r.refT
     exact ⟨b,us,rfl,.inr t.sq,fin r (Option.some.inj hf).symm⟩
   · obtain ⟨v,rfl,r⟩:=one r1
     obtain ⟨b,us,rfl,t,r⟩:=r.refL
     exact ⟨b,us,rfl,.inl t.sq,fin r (Option.some.inj hf).symm⟩
   · rename_i i _
     split at hf
     · rename_i ds eu
       obtain ⟨v,rfl,r⟩:=one r1
       unfold Rep at r
       obtain ⟨a,rfl,ea⟩:=r
       obtain ⟨us,m1,m2⟩:=hS1.ob _ _ a eu ea
       exact ⟨a,us,rfl,.inl (.of m1),fin m2 (Option.some.inj hf).symm⟩
     · cases hf
   · cases hf
end
end F
namespace F
open PySem L2 PySem.Spec PyProof.Rows
theorem Cal.alias {P:Program}{w:World}{K:PySem.W.Frag}{mg:Str→Option Value}{base:Heap}{k:Nat}{x y:Str}{g:G} (c:Cal P w K mg base k x g) (h:mg y=mg x):Cal P w K mg base k y g:=by
 obtain ⟨f,fd,ps,ds,dvs,dds,gg,FF,hm,r⟩:=c.ex
 exact ⟨f,fd,ps,ds,dvs,dds,gg,FF,h.trans hm,r⟩
theorem has_alias {K:PySem.W.Frag}{h:Heap}{mg:Str→Option Value} (KX:K.In h) (G:h.Ns mainGlobals mg) {x y:Str}{C:Addr} (a:PySem.W.nsIn K mainGlobals y=some (some (.ref C))) (b:PySem.W.nsIn K mainGlobals x=some (some (.ref C))):mg y=mg x:=(PySem.W.mg_of KX G a).trans (PySem.W.mg_of KX G b).symm
end F
namespace F
open PySem L2 PySem.Spec PyProof.Rows
def bI (b:Bool):Int:=if b=true then 1 else 0
def cntB:List Bool→Int
 | []=>0
 | b::r=>bI b + cntB r
def boolsD:List D→Option (List Bool)
 | []=>some []
 | .bl b::r=>(boolsD r).map (b::·)
 | _=>none
def sumBD (_:Sto):List D→Option D
 | [.lst ds]=>(boolsD ds).bind fun bs=>if bs.length≤1000 then some (.int (cntB bs)) else none
 | _=>none
section
variable {prog:Program}{w:World}{A:Around}{R:Result→Shared→Prop}{I:Addr}{fp wr:List Addr}{n:Nat}{P:Nat→Value→Prop}{St:Nat→Heap→Prop}
theorem wp_if {M:Model}{α:Type}{A:Around}{a b:Sem α}{Q:α→Shared→Prop}{E:Value→Shared→Prop}{s:Shared}{c:Bool} (h:c=true) (k:wpAny M A a Q E s):wpAny M A (if c=true then a else b) Q E s:=by rw [if_pos h];exact k
theorem sumB_loop (bs:List Bool) (Wk:Walks prog w A.in1 I fp wr bs.length P St) (hp:∀(j:Nat) (u:Value) (b:Bool),P j u→bs[j]? = some b→u=.bool b) (Z:Addr) (hZ:Z∉fp) :
   ∀(m j:Nat) (acc:Int) (s:Shared) (ta:Tok) (ep:Nat),bs.length - j=m→j≤bs.length→0≤acc→acc + m≤100000→St j s.heap→s.heap.get? Z=some { cls:=.type "list",dict:=none,data:=.seq #[.int acc ta] ep,slots:=#[] } →
   (∀hh tt t1,(∀b o,b∉wr→b≠Z→s.heap.get? b=some o→hh.get? b=some o)→R (.ok (.ret (.int (acc + cntB (bs.drop j)) t1))) { s with heap:=hh,toks:=tt }) →
   codeAny (model prog w) A (.builtin "sum.loop" ⟨[.ref I,.ref Z,rawInt 0,rawInt 0],[]⟩) R s:=by
 have nZ:Z∉wr:=fun z=>hZ (Wk.sub _ z)
 intro m
 induction m with
 | zero =>
   intro j acc s ta ep hm hj h0 h1 hs hz fin
   obtain rfl:j=bs.length:=by omega
   refine codeAny_builtin PySem.F.entry_sum_loop ?_
   rw [Around.under_plainId PySem.F.plain_sum_loop _]
   refine wpAny_bind (wpAny_seqItems hz rfl ?_)
   refine wpAny_bind (wpAny_tryCatch (Wk.done s _ _ hs fun hh tt kp=>?_))
   refine wpAny_pure ?_
   have:=fin hh tt ta fun b o hb _ e=>kp b o hb e
   rw [List.drop_length] at this
   simpa [cntB] using this
 | succ m ih =>
   intro j acc s ta ep hm hj h0 h1 hs hz fin
   have lt:j < bs.length:=by omega
   refine codeAny_builtin PySem.F.entry_sum_loop ?_
   rw [Around.under_plainId PySem.F.plain_sum_loop _]
   refine wpAny_bind (wpAny_seqItems hz rfl ?_)
   refine wpAny_bind (wpAny_tryCatch (Wk.item j s _ _ lt hs fun u hh tt hP hs' kp=>?_))
   obtain ⟨q,hq⟩:∃q,bs[j]=q:=⟨_,rfl⟩
   have hu:u=.bool q:=hq ▸ hp j u bs[j] hP (List.getElem?_eq_getElem lt)
   subst hu
   have hz':=kp Z _ nZ hz
   have next:∀(v:Int),v=bI q→wpAny (model prog w) A.in1 (updateSeq Z (fun _=>#[.int (acc + v) tt]) >>= fun _=>again (.builtin "sum.loop" ⟨[.ref I,.ref Z,rawInt 0,rawInt 0],[]⟩)) (fun fin s'=>match fin with | .done f=>R (.ok f) s' | .again c'=>c'.quiet=true∧codeAny (model prog w) A c' R s') (fun e s'=>R (.error e) s') { s with heap:=hh,toks:=tt + 1 }:=fun v hv=>by
     have b01:0≤v∧v≤1:=by rw [hv];unfold bI;split <;> decide
     refine wpAny_bind ?_
     refine wpAny_updateSeq hz' rfl (wpAny_pure ⟨plainId_quiet PySem.F.plain_sum_loop _,ih (j + 1) (acc + v) _ tt _ (by omega) lt (by omega) (by omega) (Wk.frame _ _ _ hs' fun b hb o e=>?_) (Heap.get?_update_self _ hz' rfl) fun h2 t2 t3 k2=>?_⟩)
     · exact (Heap.get?_update_other _ _ (fun z:Z=b=>hZ (by rw [z];exact hb))).trans e
     · have g:=fin h2 t2 t3 fun b o hb hbZ e=>k2 b o hb hbZ ((Heap.get?_update_other _ _ (Ne.symm hbZ)).trans (kp b o hb e))
       rw [List.drop_eq_getElem_cons lt,hq] at g
       have e:acc + cntB (q::bs.drop (j + 1))=acc + v + cntB (bs.drop (j + 1)):=by show acc + (bI q + cntB (bs.drop (j + 1)))=_;omega
       rw [e] at g
       exact g
   have fit:∀v:Int,0≤v→v≤1→((decide (-(2 ^ 63)≤v) && decide (v < 2 ^ 63)) && (decide (-(2 ^ 63)≤acc + v) && decide (acc + v < 2 ^ 63)))=true:=fun v v0 v1=>by
     simp only [Bool.and_eq_true,decide_eq_true_eq]
     omega
   cases q with
   | true =>
     show wpAny _ A.in1 (if (_:Bool)=true then (mkInt (acc + 1) >>= _) else _) _ _ _
     refine wp_if (fit 1 (by decide) (by decide)) ?_
     exact wpAny_bind (wpAny_mkInt (s:={ s with heap:=hh,toks:=tt }) (next 1 rfl))
   | false =>
     show wpAny _ A.in1 (if (_:Bool)=true then (mkInt (acc + 0) >>= _) else _) _ _ _
     refine wp_if (fit 0 (by decide) (by decide)) ?_
     exact wpAny_bind (wpAny_mkInt (s:={ s with heap:=hh,toks:=tt }) (next 0 rfl))
end
section
variable {X:Cx}{K:PySem.W.Frag}{mg:Str→Option Value}{e:Expr}{g:As}{p pos:Pos}
theorem call_sumB (hc:X.calm=true):CallR X (.builtin "sum") (fun xs H Q=>∃a bs,xs=[V.ref a]∧SqL X.K H a (bs.map V.bl)∧bs.length≤1000∧Q (.int (cntB bs)) H):=by
 intro pins s σ H xs us Q I rr h
 obtain ⟨a,bs,rfl,hq,hb,q⟩:=h
 obtain ⟨u,rfl,rx⟩:=vals1 rr
 cases rx
 obtain ⟨its,rv,pl,hz⟩:=I.list hq
 have hlen:=rv.length
 rw [List.length_map] at hlen
 have ha:a < s.heap.objs.size:=by
   obtain ⟨o,n,e,_⟩:=pl
   exact Heap.lt_size e
 have hval:∀(j:Nat) (v:Value) (b:Bool),its.toArray[j]? = some v→bs[j]? = some b→v=.bool b:=fun j v b e1 e2=>by
   have e1:its[j]? = some v:=by simpa using e1
   obtain ⟨u,q1,r1⟩:=rv.get (i:=j) (x:=V.bl b) (by rw [List.getElem?_map,e2];rfl)
   rw [e1] at q1
   cases q1
   exact r1
 refine call_function_tree PySem.F.kind_sum PySem.F.plain_sum PySem.F.entry_sum (PySem.F.args_sum1 _) ?_
 unfold Builtin.«sum»
 simp only [List.length_cons,List.length_nil]
 rw [if_neg (by decide)]
 refine wpAny_bind (wpAny_of_eq (show Builtin.Builtins.bindParams "sum" ["start"] 0 { }=pure [none] from rfl) ?_)
 refine wpAny_bind (wpAny_pyIter_list pl.isList ?_)
 have Wk:Walks X.prog X.w X.A.in1 s.heap.objs.size [s.heap.objs.size,a] [s.heap.objs.size] its.toArray.size _ _:=Walks.list (A:=X.A.in1) (I.ok.hd hc) _ a (Nat.ne_of_lt ha) its.toArray
 have sz:its.toArray.size=bs.length:=by rw [List.size_toArray];omega
 rw [sz] at Wk
 refine wpAny_bind (wpAny_mkInt (wpAny_bind (wpAny_pure ?_)))
 simp only [List.forIn_cons,List.forIn_nil]
 refine wpAny_bind (wpAny_bind (wpAny_bind (wpAny_isInstance (T:="int") (b:=false) (typeIs_int _ _ _) PySem.sub_int_str ?_)))
 simp only [Bool.false_eq_true,if_false]
 refine wpAny_pure (wpAny_bind (wpAny_bind (wpAny_isInstance (T:="int") (b:=false) (typeIs_int _ _ _) PySem.sub_int_bytes ?_)))
 simp only [Bool.false_eq_true,if_false]
 refine wpAny_pure (wpAny_bind (wpAny_bind (wpAny_isInstance (T:="int") (b:=false) (typeIs_int _ _ _) PySem.sub_int_bytearray ?_)))
 simp only [Bool.false_eq_true,if_false]
 refine wpAny_pure (wpAny_pure (wpAny_bind (wpAny_newObj_type ?_)))
 have nin:∀(o:Obj),∀c∈[s.heap.objs.size,a],c < (s.heap.push o).objs.size:=fun o c hc'=>by
   rw [Heap.size_push]
   rcases List.mem_cons.mp hc' with rfl | hc'
   · exact Nat.lt_succ_self _
   · rw [List.mem_singleton.mp hc'];exact Nat.lt_succ_of_lt ha
 refine wpAny_pure ⟨plainId_quiet PySem.F.plain_sum_loop _,sumB_loop bs Wk hval _ (fun z=>Nat.lt_irrefl _ (nin _ _ z)) bs.length 0 0 _ _ 0 rfl (Nat.zero_le _) (Int.le_refl 0) (by omega) ?_ (Heap.get?_push_size _ rfl) fun hh tt t1 kp=>?_⟩
 · exact Wk.frame _ _ _ ⟨⟨_,Heap.get?_push_size _ rfl,rfl,rfl⟩,pl.isList.at fun o e=>Heap.get?_push_of_some _ e⟩ fun b _ o e=>Heap.get?_push_of_some _ e
 · rw [List.drop_zero,Int.zero_add]
   refine ⟨.int (cntB bs),H,I.kept (t':=tt) fun b o e=>kp b o (fun z=>?_) (fun z=>?_) (Heap.get?_push_of_some _ (Heap.get?_push_of_some _ e)),⟨t1,rfl⟩,q⟩
   · have:=Heap.lt_size e
     rw [List.mem_singleton.mp z] at this
     exact Nat.lt_irrefl _ this
   · have lt:=Heap.lt_size e
     have z':b=(s.heap.push _).objs.size:=z
     rw [Heap.size_push] at z'
     rw [z'] at lt
     exact absurd lt (Nat.not_lt.mpr (Nat.le_succ _))
theorem boolsD_rep {ρ:List Addr}{H:Hp}:∀{ds:List D}{bs:List Bool}{vs:List V},boolsD ds=some bs→RepL K mg ρ H ds vs→vs=bs.map V.bl
 | [],_,_,e,r=>by unfold RepL at r;subst r;cases e;rfl
 | d::ds,_,_,e,r=>by
   cases d with
   | bl b =>
     unfold boolsD at e
     obtain ⟨js,e1,e2⟩:=mapS e
     cases e2
     unfold RepL at r
     obtain ⟨v,t,rfl,h1,h2⟩:=r
     rw [boolsD_rep e1 h2,show v=V.bl b from h1]
     rfl
   | _=>cases e
theorem snd_sumB:SndA K mg (fun xs H Q=>∃a bs,xs=[V.ref a]∧SqL K H a (bs.map V.bl)∧bs.length≤1000∧Q (.int (cntB bs)) H) sumBD:=by
 intro ρ H S xs ds d Q hS r e k
 unfold sumBD at e
 split at e
 · obtain ⟨bs,e1,e⟩:=zaz e
   split at e
   · rename_i hl
     cases e
     replace r:=one r
     obtain ⟨v,rfl,r⟩:=r
     obtain ⟨p,vs,rfl,t1,r⟩:=r.refL
     exact ⟨p,bs,rfl,by rw [← boolsD_rep e1 r];exact t1.sq,hl,k _ H (Ext.refl _ _) hS rfl⟩
   · cases e
 · cases e
theorem fe_sumB (hm:X.mg "sum"=none) (ha:FA X [e] g) (hc:X.calm=true:=by rfl) (hg:Gl X "sum":=by rfl) (he:starEach [e] X.env=(false,eval e X.env)::starEach [] X.env:=by exact zbp rfl) (hpl:(backTo pos (starEach [] X.env)).any (·.1)=false:=by exact zck rfl):FE X (.Call (.Name "sum" p) [e] [] pos) (eA sumBD g) :=
 fe_blt (call_sumB hc) snd_sumB hm (by with_unfolding_all rfl) ha hg (by decide) (by decide) he hpl
end
end F
namespace F
open PySem L2 PySem.Spec PyProof.Rows PySem.W
section
variable {prog:Program}{w:World}{A:Around}{E:Value→Shared→Prop}{s:Shared}
theorem slSet {l sl v:Addr}{its nw:List Value}{m:Nat}{vl vu:Value}{a b:Nat}{Q:Unit→Shared→Prop} (hl:s.heap.get? l=some { cls:=.type "list",data:=.seq its.toArray m }) (hv:s.heap.IsList v nw.toArray) (ne:l≠v)
   (hs:s.heap.IsSliceOf sl vl vu .none) (pl:IsPart vl (some (a:Int))) (pu:IsPart vu (some (b:Int))) (hab:a≤b) (hbn:b≤its.length) (hz:its.length + nw.length≤sizeLine)
   (hQ:Q () { s with heap:=s.heap.update l (Obj.mapSeq fun xs=>xs.extract 0 a++nw.toArray++xs.extract b xs.size) }) :
   wpAny (model prog w) A (setItem (.ref l) (.ref sl) (.ref v)) Q E s:=by
 have il:s.heap.IsList l its.toArray:=⟨_,hl,rfl,m,rfl⟩
 obtain ⟨o2,h2,c2,n2,d2⟩:=id hv
 obtain ⟨o3,h3,c3,d3⟩:=id hs
 have ts:s.TypeIs (.ref sl) "slice":=⟨o3,h3,c3⟩
 have zl:its.length≤sizeLine:=by omega
 have zn:nw.length≤sizeLine:=by omega
 unfold setItem
 try with_reducible refine wpAny_holding ?_
 first | refine wpAny_bind (wpAny_pure ?_) | skip
 refine wpAny_bind (wpAny_sequenceKey il.typeIs (by decide) ?_)
 refine wpAny_bind (wpAny_callSpecial?_slot (name:=Str.ofString "__setitem__") il.typeIs slot_list_setitem (wpAny_call_entry slot_list_setitem il.typeIs entry_list_setitem ?_ (args_list_setitem _ _ _)))
 show wpAny _ _ (Builtin.List.listSubscript? (.ref sl) >>= _) _ _ s
 refine wpAny_bind ?_
 unfold Builtin.List.listSubscript?
 refine wpAny_bind (wpAny_specialOf ts slice_no_index ?_)
 simp only [Option.isNone_none,if_true]
 refine wpAny_pure ?_
 show wpAny _ _ (typeOf (.ref sl) >>= _) _ _ s
 refine wpAny_bind (wpAny_typeOf ts ?_)
 rw [if_neg (by decide)]
 refine wpAny_bind ?_
 rw [listSliceParts_eq]
 refine wpAny_bind (wpAny_field h3 d3 (x:=.none) rfl (wpAny_bind (wpAny_listPart .none ?_)))
 rw [if_neg (by decide)]
 refine wpAny_bind (wpAny_field h3 d3 (x:=vl) rfl (wpAny_bind (wpAny_listPart pl (wpAny_bind (wpAny_field h3 d3 (x:=vu) rfl (wpAny_bind (wpAny_listPart pu (wpAny_pure ?_))))))))
 have same:Builtin.List.listSameRef (.ref l) (.ref v)=false:=by
   unfold Builtin.List.listSameRef
   simpa using ne
 dsimp only
 rw [same,if_neg Bool.false_ne_true]
 refine wpAny_bind ?_
 unfold Builtin.List.listAllItems
 refine wpAny_bind (wpAny_typeOf (T:="list") ⟨o2,h2,c2⟩ ?_)
 rw [if_pos (by decide)]
 unfold Builtin.List.listItems
 refine wpAny_bind (wpAny_seqItems h2 d2 (wpAny_pure ?_))
 refine wpAny_bind (wpAny_bind (wpAny_seqItems hl rfl (wpAny_pure ?_)))
 have sb:sliceBounds (some (a:Int)) (some (b:Int)) none its.toArray.size=((a:Int),(b:Int),1):=by
   rw [List.size_toArray]
   have h1:¬ ((a:Int) < 0):=by omega
   have h2:¬ ((b:Int) < 0):=by omega
   have q1:max 0 (min (a:Int) (its.length:Int))=(a:Int):=by omega
   have q2:max 0 (min (b:Int) (its.length:Int))=(b:Int):=by omega
   simp [sliceBounds]
   rw [if_neg h1,if_neg h2]
   exact ⟨q1,q2⟩
 refine wpAny_bind (wpAny_of_eq ((sliceIndices_raw (some (a:Int)) (some (b:Int)) none its.toArray.size (by simp)).trans (by rw [sb])) ?_)
 dsimp only
 rw [if_pos (by decide)]
 refine wpAny_bind (wpAny_rule ?_)
 rw [if_neg (by rw [List.size_toArray,List.size_toArray];have:=notLongL hz;simp [this])]
 have e1:(a:Int).toNat=a:=Int.toNat_natCast a
 have e2:(max (a:Int) (b:Int)).toNat=b:=by omega
 rw [e1,e2]
 unfold Builtin.List.listUpdate
 refine wpAny_bind (wpAny_updateSeq hl rfl ?_ (by rw [List.size_toArray];exact zl) ?_)
 · exact wpAny_bind (wpAny_letGo (wpAny_pure ⟨.none,rfl,wpAny_pure hQ⟩))
 · simp
   omega
end
section
variable {X:Cx}{o e lo hi:Expr}{pos pos' p2:Pos}{f h:E}{u w:Pt}
def gSlc (K:PySem.W.Frag) (to:TE) (ta tb:TO):TG:=fun v σ H Q=>to σ H fun x H1=>ta σ H1 fun a H2=>tb σ H2 fun b H3=>∃l p xs ys,∃(i j:Nat),x=.ref l∧v=.ref p∧a=some (i:Int)∧b=some (j:Int)∧H3 l=some (.lst xs)∧SqL K H3 p ys ∧
 (l≠p∨∃ob,K.lookup p=some ob)∧i≤j∧j≤xs.length∧xs.length + ys.length≤sizeLine∧Q σ (upd H3 l (.lst (xs.take i++ys++xs.drop j)))
theorem pg_slc {to:TE}{ta tb:TO} (ho:PE X o to) (hl:PO X (some lo) ta) (hu:PO X (some hi) tb)
   (ha:∀v,assign (.Subscript o (.Slice (some lo) (some hi) none p2) pos) X.env v=(do
     let ov ← holding [v] (eval o X.env)
     let iv ← holding [v,ov] (eval (.Slice (some lo) (some hi) none p2) X.env)
     standAt pos
     holding [v,ov,iv] (setItem ov iv v)
     release [iv,v,ov] []):=by intro _;rfl):PG X (.Subscript o (.Slice (some lo) (some hi) none p2) pos) (gSlc X.K to ta tb):=by
 intro pins s σ H v u Q I r h
 rw [ha]
 refine wpAny_bind (wpAny_holding (thn (ho pins s σ H _ I h) fun ov s1 ⟨x,H1,I1,r1,q1⟩=>?_))
 refine wpAny_bind (wpAny_holding ?_)
 refine wpAny_Slice (thn (hl pins s1 σ H1 _ I1 q1) fun vl s2 ⟨a,H2,I2,pl,q2⟩=>thn (hu pins s2 σ H2 _ I2 q2) fun vu s3 ⟨b,H3,I3,pu,q3⟩=>?_)
 rw [evalPart_none]
 refine wpAny_pure ?_
 obtain ⟨l,p,xs,ys,i,j,rfl,rfl,rfl,rfl,hH,hp,ne,hij,hj,hz,q⟩:=q3
 cases r1
 cases r
 have I4:Inv X pins σ H3 { s3 with heap:=s3.heap.push { cls:=.type "slice",data:=.fields #[vl,vu,.none] } }:=I3.kept (t':=s3.toks) fun b ob q=>Heap.get?_push_of_some _ q
 obtain ⟨z,its,n,rx,hlx,ex⟩:=I4.lstM hH
 obtain ⟨its2,ry,py,zy⟩:=I4.list hp
 have ne':l≠p:=by
   rcases ne with ne | ⟨ob,hk⟩
   · exact ne
   · intro e
     subst e
     have:=(I4.bs _ _ (I4.mod.kin _ _ hk)).2
     rw [hH] at this
     cases this
 refine wpAny_bind (wpAny_standAt (wpAny_bind (wpAny_holding ?_)))
 refine slSet (its:=its) (nw:=its2) (a:=i) (b:=j) ex py.isList ne' (Heap.IsSliceOf.new ..) pl pu hij (by omega) (by have:=ry.length;omega) ?_
 refine wpAny_release ⟨σ,_,I4.lset (its':=its.take i++its2++its.drop j) (t':=s3.toks) hH ex (splice_eq its its2 i j) (Vals.append (Vals.append (rx.take _) ry) (rx.drop _)) ?_,q⟩
 rw [List.length_append,List.length_append,List.length_take,List.length_drop]
 omega
def sSlSet (f:E) (a b:Pt) (v:E):C:=fun ev S=>(v ev S).bind fun p=>(f ev p.2).bind fun q=>(a ev q.2).bind fun r=>(b ev r.2).bind fun t=>match p.1,q.1,r.1,t.1 with
 | .lst ys,.obj i,some lo,some hi=>(match t.2[i]? with
   | some (.lst ds)=>if 0≤lo∧lo≤hi∧hi≤ds.length∧ds.length + ys.length≤sizeLine then some (.nx ev,t.2.set i (.lst (ds.take lo.toNat++ys++ds.drop hi.toNat))) else none
   | _=>none)
 | _,_,_,_=>none
theorem fs_slSet (ho:FE X o f) (hl:FPt X (some lo) u) (hh:FPt X (some hi) w) (hv:FE X e h)
   (ha:∀v,assign (.Subscript o (.Slice (some lo) (some hi) none p2) pos') X.env v=(do
     let ov ← holding [v] (eval o X.env)
     let iv ← holding [v,ov] (eval (.Slice (some lo) (some hi) none p2) X.env)
     standAt pos'
     holding [v,ov,iv] (setItem ov iv v)
     release [iv,v,ov] []):=by intro _;rfl) (hs:swapsWithSole [.Subscript o (.Slice (some lo) (some hi) none p2) pos'] e pos.line X.env=pure false:=by rfl) (hw:swappedStores [.Subscript o (.Slice (some lo) (some hi) none p2) pos'] e X.env=pure none:=by rfl)
   (h1:(assignEach [.Subscript o (.Slice (some lo) (some hi) none p2) pos'] X.env).map (·.2)=[assign (.Subscript o (.Slice (some lo) (some hi) none p2) pos') X.env]:=by rfl) :
   FS X (.Assign [.Subscript o (.Slice (some lo) (some hi) none p2) pos'] e pos) (sSlSet f u w h) :=
 zfo (ps_asg hv (pg_slc ho hl hh ha) hs hw h1) fun σ H D h=>by
   obtain ⟨ρ,ev,S,o,S',hE,hS,hf,k⟩:=h
   obtain ⟨⟨d,S1⟩,q1,hf⟩:=zaz hf
   obtain ⟨⟨y,S2⟩,q2,hf⟩:=zaz hf
   obtain ⟨⟨lo,S3⟩,q3,hf⟩:=zaz hf
   obtain ⟨⟨hi,S4⟩,q4,hf⟩:=zaz hf
   cases d with
   | lst ys=>cases y with
    | obj i=>cases lo with
     | none=>cases hf
     | some lo=>cases hi with
      | none=>cases hf
      | some hi =>
     dsimp only at q1 q2 q3 q4 hf
     split at hf
     · rename_i ds hd
       split at hf
       · rename_i hc
         cases hf
         refine ⟨ρ,ev,S,_,S1,hE,hS,q1,fun v ρ1 H1 E1 hS1 r1=>⟨ρ1,ev,S1,_,S2,hE.mono E1,hS1,q2,fun x ρ2 H2 E2 hS2 r2=>⟨ρ2,ev,S2,_,S3,(hE.mono E1).mono E2,hS2,q3,fun ρ3 H3 E3 hS3=>⟨ρ3,ev,S3,_,S4,((hE.mono E1).mono E2).mono E3,hS3,q4,fun ρ4 H4 E4 hS4=>?_⟩⟩⟩⟩
         have r1':=((r1.mono E2).mono E3).mono E4
         have r2':=(r2.mono E3).mono E4
         unfold Rep at r1' r2'
         obtain ⟨p,us,rfl,tl,ru⟩:=r1'
         obtain ⟨b,rfl,hb⟩:=r2'
         obtain ⟨vs,h2,h3⟩:=hS4.ob i _ b hd hb
         have e0:=ext_set hS4 (.lst (vs.take lo.toNat++us++vs.drop hi.toNat)) hb
         have l1:=h3.length
         have l2:=ru.length
         refine ⟨b,p,vs,us,lo.toNat,hi.toNat,rfl,rfl,by rw [Int.toNat_of_nonneg hc.1],by rw [Int.toNat_of_nonneg (by omega)],h2,tl.sq,?_,by omega,by omega,by omega,?_⟩
         · rcases tl with ⟨hn,_⟩ | ⟨ob,_,_,hk,_⟩
           · exact .inl fun e=>hn (e ▸ List.mem_of_getElem? hb)
           · exact .inr ⟨ob,hk⟩
         · exact k σ ρ4 _ ((((E1.trans E2).trans E3).trans E4).trans e0) (hS4.set hb ⟨_,zda,((((h3.take _).append ru).append (h3.drop _))).mono e0⟩) (((((hE.mono E1).mono E2).mono E3).mono E4).mono e0)
       · cases hf
     · cases hf
    | _=>cases hf
   | _=>cases hf
end
section
variable {X:Cx}{K:Frag}{mg:Str→Option Value}{a b:Expr}{f g:E}{pos:Pos}
def seeL (S:Sto):D→Option (List D)
 | .lst ds=>some ds
 | .obj a=>(match S[a]? with
   | some (.lst ds)=>some ds
   | _=>none)
 | _=>none
theorem seeL_rep {ρ H S x v ds} (hS:StOk K mg ρ H S) (r:Rep K mg ρ H x v) (e:seeL S x=some ds) (hb:bndL 0 ds=true):Rep K mg (ρ.take 0) H (.lst ds) v:=by
 cases x with
 | lst xs=>cases e;exact r.cut (n:=0) (by unfold bnd;exact hb)
 | obj i =>
   dsimp only [seeL] at e
   split at e
   · rename_i xs hd
     cases e
     unfold Rep at r
     obtain ⟨p,rfl,hp⟩:=r
     obtain ⟨us,hu,ru⟩:=hS.ob i _ p hd hp
     unfold Rep
     exact ⟨p,us,rfl,.inl ⟨by simp,.inl hu⟩,ru.cut hb⟩
   · cases e
 | _=>cases e
def opNeO (S:Sto) (x y:D):Option D:=(seeL S x).bind fun as=>(seeL S y).bind fun bs=>if bndL 0 as=true∧bndL 0 bs=true then opNe (.lst as) (.lst bs) else none
def opEqO (S:Sto) (x y:D):Option D:=(seeL S x).bind fun as=>(seeL S y).bind fun bs=>if bndL 0 as=true∧bndL 0 bs=true then opEq (.lst as) (.lst bs) else none
theorem snd_neO:Snd2 K mg (rEqD K mg true) opNeO:=by
 intro ρ H S x y dx dy d Q hS rx ry e k
 obtain ⟨as,e1,e⟩:=zaz e
 obtain ⟨bs,e2,e⟩:=zaz e
 split at e
 · rename_i hb
   obtain ⟨c,e3,e⟩:=mapS e
   subst e
   exact ⟨ρ.take 0,.lst as,.lst bs,c,seeL_rep hS rx e1 hb.1,seeL_rep hS ry e2 hb.2,e3,k _ H (Ext.refl _ _) hS rfl⟩
 · cases e
theorem snd_eqO:Snd2 K mg (rEqD K mg false) opEqO:=by
 intro ρ H S x y dx dy d Q hS rx ry e k
 obtain ⟨as,e1,e⟩:=zaz e
 obtain ⟨bs,e2,e⟩:=zaz e
 split at e
 · rename_i hb
   obtain ⟨c,e3,e⟩:=mapS e
   subst e
   exact ⟨ρ.take 0,.lst as,.lst bs,c,seeL_rep hS rx e1 hb.1,seeL_rep hS ry e2 hb.2,e3,k _ H (Ext.refl _ _) hS rfl⟩
 · cases e
theorem fb_neO {k:Nat} (hr:Room k X.A) (ha:FE X a f) (hb:FE X b g) (hm:behindInMarks .NotEq b=false:=by exact nomark _):FB X (.Compare a [.NotEq] [b] pos) (bE (e2s opNeO f g)):=fb_cmp (op_neD (by have:=hr.un;omega)) snd_neO ha hb hm
theorem fe_eqO {k:Nat} (hr:Room k X.A) (ha:FE X a f) (hb:FE X b g) (hm:behindInMarks .Eq b=false:=by exact nomark _):FE X (.Compare a [.Eq] [b] pos) (e2s opEqO f g):=fe_cmp (op_eqD (by have:=hr.un;omega)) snd_eqO ha hb hm
end
end F
namespace F
open PySem L2 PySem.Spec PyProof.Rows
def rMethA (c m:Str) (f:E) (r:R):R:=fun ev S=>(f ev S).bind fun p=>(zfp c p.2 p.1).bind fun q=>if q.2.lookup m=none then r ev p.2 else none
section
variable {X:Cx}{k:Nat}{x c m n:Str}{g:G}{e o:Expr}{es:List Expr}{a:As}{f:E}{r:R}{p pos apos:Pos}
theorem re_methA (mt:Mth X.prog X.w X.K X.mg X.base k c m g) (ho:FE X o f) (hre:RE X e r) {pl:Sem Bool}
   (hst:starEach (e::es) X.env=(false,eval e X.env)::starEach es X.env:=by exact zbp rfl) (hpl:(backTo pos (starEach es X.env)).any (·.1)=false:=by exact zck rfl)
   (ht:eval (.Call (.Attribute o m apos) (e::es) [] pos) X.env=(do
     let ov ← eval o X.env
     standAt apos.atName
     let (f,first) ← holding [ov] (getMethod ov m pl)
     callWith pos f first (backTo pos (starEach (e::es) X.env)) (backToKw pos (keywordEach [] X.env))):=by rfl) :
   RE X (.Call (.Attribute o m apos) (e::es) [] pos) (rMethA c m f r):=by
 obtain ⟨C,fa,fd,ps,ds,dvs,dds,gg,F,hm,hc,hme,hb,hd,hdd,hgg⟩:=mt.ex
 intro pins s σ H E Q hx I t
 obtain ⟨ρ,ev,S,nm,S',hE,hS,hf,CC,hC,kk⟩:=t
 obtain ⟨⟨y,S1⟩,q1,hf1⟩:=zaz hf
 obtain ⟨⟨i,fs⟩,q2,hf2⟩:=zaz hf1
 dsimp only at hf2 q2
 split at hf2
 · rename_i hl
   obtain ⟨rfl,hi⟩:=insAt_eq q2
   have h0:=ho pins s σ H (fun x H1=>∃b dx fs,x=.ref b∧H1 b=some (.ins C dx fs)∧fs.lookup m=none∧tR X.K X.mg r σ H1 E) I ⟨ρ,ev,S,_,S1,hE,hS,q1,fun v ρ1 H1 E1 hS1 r1=>by
     obtain ⟨b,C',dx,vs,rfl,hb1,hm',hb2,hb3⟩:=rep_obj hS1 hi r1
     have ec:C'=C:=by rw [hm] at hm';cases hm';rfl
     subst ec
     exact ⟨b,dx,vs,rfl,hb2,lookup_none hb3.1 hl,ρ1,ev,S1,nm,S',hE.mono E1,hS1,hf2,CC,hC,fun e ρ' H' E' hS'=>kk e ρ' H' (E1.trans E') hS'⟩⟩
   refine PySem.W.methodCall_KW (pl:=pl) (thn h0 fun u s1 ⟨x,H1,I1,rx,b,dx,fs,ex,ea,l,q⟩=>?_) ht
   subst ex
   cases (show u=Value.ref b from rx)
   refine getmeth_ok I1 ea hc hme l ?_
   refine PySem.W.callWith_K (first:=[.ref b]) (h₀:=X.base) I.ok.mod.kin hme.kp ?_ hst hpl
   rw [hst]
   show wpAny _ _ (spliced ((false,eval e X.env)::backTo pos (starEach es X.env))) _ _ s1
   exact Calls.spliced_cons (hre pins s1 σ H1 E _ hx I1 q)
 · cases hf2
theorem rs_fld {pos':Pos} (he:RE X e r) (hs:swapsWith e (some (.Attribute o n pos')) pos.line X.env=pure false:=by rfl):RS X (.Assign [.Attribute o n pos'] e pos) r:=fun pins s σ H E Q hx I t=>plainObj_wpAny_Assign_Attribute (he pins s σ H E _ hx I t) hs
end
structure RMak (P:Program) (w:World) (K:PySem.W.Frag) (mg:Str→Option Value) (base:Heap) (k:Nat) (c:Str) (g:GR):Prop where
 ex:∃(C f:Addr) (fd:FuncData) (ps:List Str) (ds:List Value) (dvs:List V) (dds:List D) (gg:GR),FnOk P w K mg base (CX1 P w) k f fd ps (spR K mg gg)∧mg c=some (.ref C)∧Mk K C f ∧
   Binds K fd ps ds∧Vals dvs ds∧(∀ρ H,RepL K mg ρ H dds dvs)∧∀args S r,g args S=some r→gg (args++dds) S=some r
def rMake (c:Str) (g:GR) (a:As):R:=fun ev S=>(a ev S).bind fun q=>g (.obj q.2.length::q.1) (q.2++[.ins c []])
section
variable {X:Cx}{CX:CXT}{k:Nat}{f C:Addr}{fd:FuncData}{ps:List Str}{sp:Sp}{dvs:List V}{ds:List Value}{E:XK}{pins:List (Addr×Obj)}{σ:L2.St}{H:Hp}{s:Shared}{us:List Value}{vs:List V}
theorem run_makeR (M:Mk X.K C f) (F:FnOk X.prog X.w X.K X.mg X.base CX k f fd ps sp) (hr:Room (k + 1) X.A) (hb:Binds X.K fd ps ds) (hd:Vals dvs ds)
   (hx:∀H s e s',Inv X pins σ H s→CX X.stack H s E e s'→X.xe e s') (I:Inv X pins σ H s) (r:Vals vs us)
   (h:∀x dx,H x=none→H dx=none→dx≠x→sp (.ref x::(vs++dvs)) (upd (upd H dx (.own x)) x (.ins C dx [])) (fun _ _=>False) E) {Q:Value→Shared→Prop} :
   wpAny (model X.prog X.w) X.A (call (.ref C) us) Q X.xe s:=by
 have hq:=h (s.heap.objs.size + 1) s.heap.objs.size (I.hok.fresh (Nat.le_succ _)) (I.hok.fresh (Nat.le_refl _)) (Nat.ne_of_lt (Nat.lt_succ_self _))
 have I2:=Inv.made (C:=C) I
 have r2:Vals (V.ref (s.heap.objs.size + 1)::(vs++dvs)) (Value.ref (s.heap.objs.size + 1)::(us++ds)):=.cons rfl (r.append hd)
 have hl:(Value.ref (s.heap.objs.size + 1)::us++ds).length=ps.length:=by
   have e:=r2.length
   rw [F.len _ _ _ _ hq] at e
   exact e.symm
 refine wpAny_call (make_map (f:=f) I.kIn M.makes M.init (beq_iff_eq.mp M.fn) (codeAny_mono (F.run _ X.stack _ _ ⟨Value.ref (s.heap.objs.size + 1)::us,[]⟩ (Value.ref (s.heap.objs.size + 1)::(us++ds)) _ _ E (hr.make C us [])
   (I2.env0.make C us []) (hb _ (Value.ref (s.heap.objs.size + 1)::us) I2.kIn hl) r2 hq) fun r s' hq'=>?_))
 cases r with
 | error e=>exact hx _ _ e s' I2 hq'
 | ok fl =>
   cases fl with
   | ret u =>
     obtain ⟨v,H',I3,rv,q3⟩:=I2.after hq'
     exact q3.elim
   | next=>exact False.elim hq'
   | brk=>exact False.elim hq'
   | cont=>exact False.elim hq'
end
section
variable {X:Cx}{k:Nat}{c:Str}{g:GR}{e:Expr}{es:List Expr}{a:As}{p pos:Pos}
theorem re_make (mk:RMak X.prog X.w X.K X.mg X.base k c g) (hr:Room (k + 1) X.A) (ha:FA X (e::es) a) (hg:Gl X c:=by rfl) (hdb:(c == ("__debug__":Str))=false:=by decide)
   (he:starEach (e::es) X.env=(false,eval e X.env)::starEach es X.env:=by exact zbp rfl) (hpl:(backTo pos (starEach es X.env)).any (·.1)=false:=by exact zck rfl) :
   RE X (.Call (.Name c p) (e::es) [] pos) (rMake c g a):=by
 obtain ⟨C,f,fd,ps,ds,dvs,dds,gg,F,hm,M,hb,hd,hdd,hgg⟩:=mk.ex
 intro pins s σ H E Q hx I t
 obtain ⟨ρ,ev,S,nm,S',hE,hS,hf,CC,hC,kk⟩:=t
 obtain ⟨⟨ws,S1⟩,q1,hf⟩:=zaz hf
 dsimp only at hf
 have h:=ha pos pins s σ H (fun vs H1=>∀x dx,H1 x=none→H1 dx=none→dx≠x→spR X.K X.mg gg (.ref x::(vs++dvs)) (upd (upd H1 dx (.own x)) x (.ins C dx [])) (fun _ _=>False) E) I ⟨ρ,ev,S,ws,S1,hE,hS,q1,fun vs ρ1 H1 E1 hS1 r1=>fun x dx nx ndx ne=>by
   have s0:=hS1.new (.own x) ndx
   have nx':upd H1 dx (.own x) x=none:=by rw [zcc (Ne.symm ne)];exact nx
   have e0:=zei hS1 (.own x) ndx
   have e1:=ext_add s0 (p:=x) (.ins C dx []) nx'
   have s1:StOk X.K X.mg (ρ1++[x]) (upd (upd H1 dx (.own x)) x (.ins C dx [])) (S1++[.ins c []]):=s0.add nx' ⟨C,dx,[],hm,zda,rfl,RepL.nil⟩
   have ro:Rep X.K X.mg (ρ1++[x]) (upd (upd H1 dx (.own x)) x (.ins C dx [])) (.obj S1.length) (.ref x):=by
     unfold Rep
     refine ⟨x,rfl,?_⟩
     rw [List.getElem?_append_right (by rw [hS1.len] <;> exact Nat.le_refl _),hS1.len]
     simp
   exact ⟨ρ1++[x],.obj S1.length::(ws++dds),S1++[.ins c []],nm,S',RepL.cons ro ((r1.mono (e0.trans e1)).append (hdd _ _)),s1,hgg (.obj S1.length::ws) _ _ hf,CC,hC,fun e ρ' H' E' hS'=>kk e ρ' H' (E1.trans ((e0.trans e1).trans E')) hS'⟩⟩
 refine wpAny_Call_Name_kw (ld_glob I hg hm ?_ hdb)
 refine PySem.W.callWith_K (h₀:=X.base) I.ok.mod.kin M.kp (thn h fun us s1 ⟨vs,H1,I1,r,q⟩=>⟨I1.kIn,?_⟩) he hpl
 exact run_makeR M F hr hb hd (fun H s e s' I hc=>hx.pass I hc) I1 r q
end
section
variable {P:Program}{w:World}{K:PySem.W.Frag}{mg:Str→Option Value}{base:Heap}{k:Nat}{x y c qual:Str}{N ps:List Str}{st:Stmt}{r:R}{g:GR}
theorem RCal.alias (h0:RCal P w K mg base k x g) (h:mg y=mg x):RCal P w K mg base k y g:=by
 obtain ⟨f,fd,ps,ds,dvs,dds,gg,FF,hm,r⟩:=h0.ex
 exact ⟨f,fd,ps,ds,dvs,dds,gg,FF,h.trans hm,r⟩
theorem HasMk.rmk1 (h:HasMk K mg c qual st 1) (S:FnScope N ps (zab st)) (hb:Bnd1 "__init__" qual st ps ps.length) (hbody:BodyR P w K mg base N qual st k r):RMak P w K mg base (k + 1) c (zfd N.length ps.length r):=by
 obtain ⟨C,f,fd,dV,F,hm,hme,hd⟩:=h.ex
 have B:=F.binds1 hd hb (Nat.le_refl _)
 rw [Nat.sub_self] at B
 exact ⟨C,f,fd,ps,[],[],[],_,F.rok S fun cdv A outer s H E hr=>hbody f cdv A outer s H E hr,hm,hme,B,.nil,fun _ _=>RepL.nil,fun args S r e=>by rw [List.append_nil];exact e⟩
end
end F
set_option maxHeartbeats 2000000
namespace Mt
open PySem L2 F
def isI:D→Option Int
 | .int i=>some i
 | _=>none
def isS:D→Option Str
 | .str i=>some i
 | _=>none
def isP:D→Option (Int×Int)
 | .tup [.int a,.int b]=>some (a,b)
 | _=>none
def ad (k:Nat) (x y:D):D:=match k with
 | 1=>(match isI x,isI y with | some i,some j=>.int (i + j) | _,_=>.non)
 | 2=>(match isS x,isS y with | some i,some j=>.str (i++j) | _,_=>.non)
 | 3=>(match isP x,isP y with | some p,some q=>.tup [.int (p.1 * q.1 % 1000003),.int ((p.2 * q.1 + q.2) % 1000003)] | _,_=>.non)
 | 4=>(match isI x,isI y with | some i,some j=>.int (if j > i then j else i) | _,_=>.non)
 | _=>.non
theorem str_assoc (a b c:Str):a++b++c=a++(b++c):=by
 show Str.mk ((a.cps++b.cps)++c.cps)=Str.mk (a.cps++(b.cps++c.cps))
 rw [Array.append_assoc]
theorem str_len (a b:Str):(a++b).length=a.length + b.length:=strLen_append a b
theorem ad1 (x y:D):ad 1 x y=match isI x,isI y with | some i,some j=>.int (i + j) | _,_=>.non:=rfl
theorem ad2 (x y:D):ad 2 x y=match isS x,isS y with | some i,some j=>.str (i++j) | _,_=>.non:=rfl
theorem ad4 (x y:D):ad 4 x y=match isI x,isI y with | some i,some j=>.int (if j > i then j else i) | _,_=>.non:=rfl
theorem ad3 (x y:D):ad 3 x y=match isP x,isP y with | some p,some q=>.tup [.int (p.1 * q.1 % 1000003),.int ((p.2 * q.1 + q.2) % 1000003)] | _,_=>.non:=rfl
theorem mm (a b m:Int):(a % m * b) % m=a * b % m:=by rw [Int.mul_emod,Int.emod_emod_of_dvd _ (Int.dvd_refl m),← Int.mul_emod]
theorem mm' (a b m:Int):(b * (a % m)) % m=b * a % m:=by rw [Int.mul_comm,mm,Int.mul_comm]
theorem am (a b m:Int):(a % m + b) % m=(a + b) % m:=by rw [Int.add_emod,Int.emod_emod_of_dvd _ (Int.dvd_refl m),← Int.add_emod]
theorem ad_assoc (k:Nat) (x y z:D):ad k (ad k x y) z=ad k x (ad k y z):=by
 match k with
 | 0=>rfl
 | 1 =>
   simp only [ad1]
   cases h1:isI x <;> cases h2:isI y <;> cases h3:isI z <;> simp [isI,Int.add_assoc]
 | 2 =>
   simp only [ad2]
   cases h1:isS x <;> cases h2:isS y <;> cases h3:isS z <;> simp [isS,str_assoc]
 | 3 =>
   simp only [ad3]
   cases h1:isP x <;> cases h2:isP y <;> cases h3:isP z <;> simp [isP]
   rename_i p q r
   constructor
   · rw [mm,mm',Int.mul_assoc]
   · rw [← am (_ * _) _ 1000003,mm,← am (p.snd * _) _ 1000003,mm',am,am]
     congr 1
     rw [Int.add_mul,Int.mul_assoc,Int.add_assoc]
 | 4 =>
   simp only [ad4]
   cases h1:isI x <;> cases h2:isI y <;> cases h3:isI z <;> simp [isI]
   repeat' split
   all_goals omega
 | n + 5=>rfl
def sumD (k:Nat):List D→D
 | []=>.non
 | t::r=>if k=0 then .non else r.foldl (ad k) t
theorem sumD_zero (ts:List D):sumD 0 ts=.non:=by cases ts <;> rfl
theorem fold_ad (k:Nat) (a:D):∀(r:List D) (b:D),r.foldl (ad k) (ad k a b)=ad k a (r.foldl (ad k) b)
 | [],_=>rfl
 | c::r,b=>by
   show r.foldl (ad k) (ad k (ad k a b) c)=ad k a (r.foldl (ad k) (ad k b c))
   rw [ad_assoc,fold_ad k a r]
theorem sumD_append {k:Nat} (hk:k≠0) {xs ys:List D} (hx:xs≠[]) (hy:ys≠[]):sumD k (xs++ys)=ad k (sumD k xs) (sumD k ys):=by
 cases xs with
 | nil=>exact absurd rfl hx
 | cons x xs =>
   cases ys with
   | nil=>exact absurd rfl hy
   | cons y ys =>
     show (if k=0 then D.non else (xs++y::ys).foldl (ad k) x)=ad k (if k=0 then D.non else xs.foldl (ad k) x) (if k=0 then D.non else ys.foldl (ad k) y)
     rw [if_neg hk,if_neg hk,if_neg hk,List.foldl_append,List.foldl_cons,fold_ad]
theorem sumD_one {k:Nat} (hk:k≠0) (t:D):sumD k [t]=t:=by show (if k=0 then D.non else t)=t;rw [if_neg hk]
def Th (k n:Nat) (d:D):Prop:=match k with
 | 1=>∃i,d=.int i
 | 2=>∃z,d=.str z∧z.length≤8 * n
 | 3=>∃a b,d=.tup [.int a,.int b]∧0≤a∧a < 1000003∧0≤b∧b < 1000003
 | 4=>∃i,d=.int i
 | _=>False
def Thing (k:Nat) (d:D):Prop:=match k with
 | 0=>(∃i,d=.int i)∨∃z,d=.str z∧z.length≤8
 | k=>Th k 1 d
theorem Th.ad {k n m:Nat}{x y:D} (hx:Th k n x) (hy:Th k m y):Th k (n + m) (ad k x y):=by
 match k,hx,hy with
 | 0,h,_=>exact h.elim
 | 1,⟨i,e⟩,⟨j,e'⟩=>subst e e';exact ⟨_,rfl⟩
 | 2,⟨i,e,h⟩,⟨j,e',h'⟩=>subst e e';exact ⟨_,rfl,by rw [str_len];omega⟩
 | 3,⟨a,b,e,h⟩,⟨c,d,e',h'⟩ =>
   subst e e'
   exact ⟨_,_,rfl,Int.emod_nonneg _ (by decide),Int.emod_lt_of_pos _ (by decide),Int.emod_nonneg _ (by decide),Int.emod_lt_of_pos _ (by decide)⟩
 | 4,⟨i,e⟩,⟨j,e'⟩=>subst e e';exact ⟨_,rfl⟩
 | n + 5,h,_=>exact h.elim
theorem Thing.th {k:Nat}{d:D} (hk:k≠0) (h:Thing k d):Th k 1 d:=by
 match k,hk,h with
 | 0,hk,_=>exact absurd rfl hk
 | k + 1,_,h=>exact h
theorem th_sum {k:Nat} (hk:k≠0):∀{ts:List D},ts≠[]→(∀t∈ts,Thing k t)→Th k ts.length (sumD k ts)
 | [],h,_=>absurd rfl h
 | [t],_,h=>by rw [sumD_one hk];exact (h t (by simp)).th hk
 | t::u::r,_,h=>by
   rw [show t::u::r=[t]++(u::r) from rfl,sumD_append hk (by simp) (by simp),sumD_one hk]
   have:=((h t (by simp)).th hk).ad (th_sum hk (ts:=u::r) (by simp) fun x hx=>h x (List.mem_cons_of_mem _ hx))
   rw [Nat.add_comm] at this
   exact this
def ord (a:Bool) (xs:List D):List D:=if a=true then xs.reverse else xs
theorem ord_len (a:Bool) (xs:List D):(ord a xs).length=xs.length:=by unfold ord;split <;> simp
def mkD (num:Int) (a:Bool) (l t r:D) (sz ht:Int) (to ba:D):D:=.tup [.int num,.bl a,l,t,r,.int sz,.int ht,to,ba]
inductive Mk (k:Nat):D→List D→Nat→Prop where
 | non:Mk k .non [] 0
 | node {num:Int}{a:Bool}{l t r:D}{lt rt:List D}{lh rh:Nat}:Mk k l lt lh→Mk k r rt rh→Thing k t→lh≤rh + 1→rh≤lh + 1 →
   Mk k (mkD num a l t r (lt.length + 1 + rt.length:Nat) (max lh rh + 1:Nat) (sumD k (ord a (lt++t::rt))) (sumD k (ord a (lt++t::rt)).reverse)) (ord a (lt++t::rt)) (max lh rh + 1)
theorem Mk.things {k d ts h} (m:Mk k d ts h):∀t∈ts,Thing k t:=by
 induction m with
 | non=>intro t ht;cases ht
 | @node num a l t r lt rt lh rh ml mr ht _ _ il ir =>
   intro x hx
   have:x∈lt++t::rt:=by
     unfold ord at hx
     split at hx
     · exact List.mem_reverse.mp hx
     · exact hx
   rcases List.mem_append.mp this with q | q
   · exact il x q
   · rcases List.mem_cons.mp q with rfl | q
     · exact ht
     · exact ir x q
end Mt
set_option maxHeartbeats 4000000
namespace Pg
open PySem L2 F Mt
variable {k:Nat}{d l r t:D}{ts lt rt:List D}{h lh rh:Nat}{S S1:Sto}{ev e:Ev}
theorem two_le:(2:Nat)≤sizeLine:=by decide
theorem eq_int (i j:Int):opEq (.int i) (.int j)=some (.bl (i == j)):=rfl
theorem set_at {i:Nat}{a b:MO} (h:S[i]? = some a):(S.set i b)[i]? = some b:=List.getElem?_set_self (List.getElem?_eq_some_iff.mp h).1
theorem set_ne {i j:Nat} (hij:i≠j) (b:MO):(S.set i b)[j]? = S[j]?:=List.getElem?_set_ne hij
def Ok (c:C) (ev:Ev) (S:Sto):Prop:=∃S',c ev S=some (.rt (.bl true),S')
theorem zal {i:Nat}{f:E} (h:f ev S=some (d,S1)):sSet i f ev S=some (.nx (ev.set i (some d)),S1):=by simp [sSet,h]
theorem zaq {c:B}{a:C} (h:c ev S=some (false,S1)):sIf c a sNil ev S=some (.nx ev,S1):=by simp [sIf,h,sNil]
theorem zbr {c:B}{a b:C}{o:Out}{S2:Sto} (h:c ev S=some (true,S1)) (q:a ev S1=some (o,S2)):sIf c a b ev S=some (o,S2):=by simp [sIf,h,q]
theorem b_of {f:E}{b:Bool} (h:f ev S=some (.bl b,S1)):bE f ev S=some (b,S1):=by simp [bE,h]
theorem b_nT {u:B} (h:u ev S=some (true,S1)):bNot u ev S=some (false,S1):=by simp [bNot,h]
theorem b_nF {u:B} (h:u ev S=some (false,S1)):bNot u ev S=some (true,S1):=by simp [bNot,h]
theorem b_andF {u v:B} (h:u ev S=some (false,S1)):bAnd u v ev S=some (false,S1):=by simp [bAnd,h]
theorem b_andT {u v:B}{b:Bool}{S2:Sto} (h:u ev S=some (true,S1)) (q:v ev S1=some (b,S2)):bAnd u v ev S=some (b,S2):=by simp [bAnd,h,q]
theorem b_orF {u v:B}{b:Bool}{S2:Sto} (h:u ev S=some (false,S1)) (q:v ev S1=some (b,S2)):bOr u v ev S=some (b,S2):=by simp [bOr,h,q]
theorem e_2 {op:D→D→Option D}{f g:E}{x y z:D}{S2:Sto} (h:f ev S=some (x,S1)) (q:g ev S1=some (y,S2)) (o:op x y=some z):e2 op f g ev S=some (z,S2):=by simp [e2,h,q,o]
theorem e_2s {op:Sto→D→D→Option D}{f g:E}{x y z:D}{S2:Sto} (h:f ev S=some (x,S1)) (q:g ev S1=some (y,S2)) (o:op S2 x y=some z):e2s op f g ev S=some (z,S2):=by simp [e2s,h,q,o]
theorem e_1 {op:D→Option D}{f:E}{x z:D} (h:f ev S=some (x,S1)) (o:op x=some z):e1 op f ev S=some (z,S1):=by simp [e1,h,o]
theorem e_v {i:Nat} (h:ev[i]? = some (some d)):eV i ev S=some (d,S):=by simp [eV,h]
theorem e_k:eK d ev S=some (d,S):=rfl
theorem a_n:aN ev S=some ([],S):=rfl
theorem a_c {f:E}{g:As}{ds:List D}{S2:Sto} (h:f ev S=some (d,S1)) (q:g ev S1=some (ds,S2)):aC f g ev S=some (d::ds,S2):=by simp [aC,h,q]
theorem zaf {g:G}{a:As}{ds:List D}{S2:Sto} (h:a ev S=some (ds,S1)) (q:g ds S1=some (d,S2)):zak g a ev S=some (d,S2):=by simp [zak,h,q]
theorem e_a {op:Sto→List D→Option D}{a:As}{ds:List D} (h:a ev S=some (ds,S1)) (o:op S1 ds=some d):eA op a ev S=some (d,S1):=by simp [eA,h,o]
theorem zey {a:As}{ds:List D} (h:a ev S=some (ds,S1)) (hl:ds.length≤16777216):eTup a ev S=some (.tup ds,S1):=by
 have hz:sizeLine=16777216:=sizeLine_eq
 simp [eTup,eA,h,hz,hl]
theorem e_lst {a:As}{ds:List D} (h:a ev S=some (ds,S1)) (hl:ds.length≤16777216):eLst a ev S=some (.lst ds,S1):=by
 have hz:sizeLine=16777216:=sizeLine_eq
 simp [eLst,eA,h,hz,hl]
theorem e_newL {a:As}{ds:List D} (h:a ev S=some (ds,S1)) (hl:ds.length≤16777216):eNewL a ev S=some (.obj S1.length,S1++[.lst ds]):=by
 have hz:sizeLine=16777216:=sizeLine_eq
 simp [eNewL,h,hz,hl]
theorem zcz {c m:Str}{g:G}{f:E}{a:As}{i:Nat}{fs:List (Str×D)}{ds:List D}{S2 S3:Sto} (h:f ev S=some (.obj i,S1)) (hi:zfp c S1 (.obj i)=some (i,fs)) (hm:fs.lookup m=none) (ha:a ev S1=some (ds,S2)) (q:g (.obj i::ds) S2=some (d,S3)) :
   zbh c m g f a ev S=some (d,S3):=by simp [zbh,h,hi,hm,ha,q]
theorem e_fld {c n:Str}{f:E}{i:Nat}{fs:List (Str×D)} (h:f ev S=some (.obj i,S1)) (hi:zfp c S1 (.obj i)=some (i,fs)) (hm:fs.lookup n=some d):eFld c n f ev S=some (d,S1):=by simp [eFld,h,hi,hm]
theorem p_e {f:E}{i:Int} (h:f ev S=some (.int i,S1)):pE f ev S=some (some i,S1):=by simp [pE,h]
theorem e_andT {f g:E}{S2:Sto} (h:f ev S=some (.bl true,S1)) (q:g ev S1=some (d,S2)):eAnd f g ev S=some (d,S2):=by simp [eAnd,h,q]
theorem e_not {f:E}{b:Bool} (h:f ev S=some (.bl b,S1)):eNot f ev S=some (.bl !b,S1):=by simp [eNot,e1,h]
theorem add_int (i j:Int):zbc (.int i) (.int j)=some (.int (i + j)):=rfl
theorem sub_int (i j:Int):zdu (.int i) (.int j)=some (.int (i - j)):=rfl
theorem add_tup {x:D}{xs ys:List D} (h:(x::xs).length + ys.length≤16777216):zbc (.tup (x::xs)) (.tup ys)=some (.tup (x::xs++ys)):=by
 have hz:sizeLine=16777216:=sizeLine_eq
 simp only [zbc,hz,if_pos h]
def pl:Nat→D→Bool
 | _,.non=>true
 | _,.bl _=>true
 | _,.int _=>true
 | _,.str _=>true
 | n + 1,.tup ds=>ds.all (pl n)
 | n + 1,.lst ds=>ds.all (pl n)
 | _,_=>false
theorem eqL_self {f:D→D→Option Bool}:∀{ds:List D},(∀x∈ds,f x x=some true)→eqL f ds ds=some true
 | [],_=>rfl
 | x::ds,h=>by simp [eqL,h x (by simp),eqL_self fun y hy=>h y (List.mem_cons_of_mem _ hy)]
theorem eqN_self:∀{n:Nat}{d:D},pl n d=true→eqN n d d=some true:=by
 intro n
 induction n with
 | zero=>intro d h;cases d <;> first | (cases h;done) | simp [eqN,eqF,flatD,eqV]
 | succ n ih =>
   intro d h
   cases d with
   | tup ds =>
     have h:ds.all (pl n)=true:=h
     exact eqL_self fun x hx=>ih (List.all_eq_true.mp h x hx)
   | lst ds =>
     have h:ds.all (pl n)=true:=h
     have q:eqL (eqN n) ds ds=some true:=eqL_self fun x hx=>ih (List.all_eq_true.mp h x hx)
     simp [eqN,q]
   | _=>first | (cases h;done) | simp [eqN,eqF,flatD,eqV,isSeqD]
theorem pl_mono:∀{n m:Nat}{d:D},n≤m→pl n d=true→pl m d=true:=by
 intro n
 induction n with
 | zero=>intro m d _ h;cases d <;> first | (cases h;done) | (cases m <;> rfl)
 | succ n ih =>
   intro m d hm h
   cases m with
   | zero=>omega
   | succ m =>
     cases d with
     | tup ds=>exact List.all_eq_true.mpr fun x hx=>ih (by omega) (List.all_eq_true.mp h x hx)
     | lst ds=>exact List.all_eq_true.mpr fun x hx=>ih (by omega) (List.all_eq_true.mp h x hx)
     | _=>first | (cases h;done) | rfl
theorem pl_th {n:Nat}{x:D} (hx:Th k n x):pl 1 x=true:=by
 match k,hx with
 | 0,h=>exact h.elim
 | 1,⟨i,e⟩=>subst e;rfl
 | 2,⟨z,e,_⟩=>subst e;rfl
 | 3,⟨a,b,e,_⟩=>subst e;rfl
 | 4,⟨i,e⟩=>subst e;rfl
 | n + 5,h=>exact h.elim
theorem pl_thing {x:D} (hx:Thing k x):pl 1 x=true:=by
 match k,hx with
 | 0,.inl ⟨i,e⟩=>subst e;rfl
 | 0,.inr ⟨z,e,_⟩=>subst e;rfl
 | k + 1,h=>exact pl_th (k:=k + 1) h
theorem eq_pl (h:pl 150 d=true):opEq d d=some (.bl true):=by unfold opEq;rw [eqN_self h];rfl
theorem ne_pl (h:pl 150 d=true):opNe d d=some (.bl false):=by unfold opNe;rw [eqN_self h];rfl
theorem pl_lst (hts:∀x∈ts,Thing k x):pl 2 (.lst ts)=true:=List.all_eq_true.mpr fun x hx=>pl_thing (hts x hx)
theorem b_rt {N n:Nat}{c:C}{ds:List D}{S S':Sto}{d:D} (hl:ds.length=n) (h:c (ds.map some++List.replicate (N - ds.length) none) S=some (.rt d,S')):zbe N n c ds S=some (d,S'):=by
 unfold zbe;rw [if_pos hl,h]
theorem zax {f:E} (h:f ev S=some (d,S1)):sRet f ev S=some (.rt d,S1):=by simp [sRet,h]
theorem zbz {a b:C} (h:a ev S=some (.rt d,S1)):sSeq a b ev S=some (.rt d,S1):=by simp [sSeq,h]
theorem zah {a b:C}{o:Out}{S2:Sto} (h:a ev S=some (.nx e,S1)) (q:b e S1=some (o,S2)):sSeq a b ev S=some (o,S2):=by simp [sSeq,h,q]
inductive Sv:D→Prop where
 | non:Sv .non
 | int (i:Int):Sv (.int i)
 | str (z:Str):Sv (.str z)
 | pair (a b:Int):Sv (.tup [.int a,.int b])
theorem sv_th {n:Nat}{x:D} (hx:Th k n x):Sv x:=by
 match k,hx with
 | 0,h=>exact h.elim
 | 1,⟨i,e⟩=>subst e;exact .int _
 | 2,⟨z,e,_⟩=>subst e;exact .str _
 | 3,⟨a,b,e,_⟩=>subst e;exact .pair _ _
 | 4,⟨i,e⟩=>subst e;exact .int _
 | n + 5,h=>exact h.elim
theorem sv_thing {x:D} (hx:Thing k x):Sv x:=by
 match k,hx with
 | 0,.inl ⟨i,e⟩=>subst e;exact .int _
 | 0,.inr ⟨z,e,_⟩=>subst e;exact .str _
 | k + 1,h=>exact sv_th (k:=k + 1) h
def low:Nat→Nat
 | 0=>0
 | 1=>1
 | h + 2=>low (h + 1) + low h + 1
theorem low_step:∀h:Nat,low h≤low (h + 1)
 | 0=>by decide
 | 1=>by decide
 | h + 2=>by
   show low (h + 2)≤low (h + 2) + low (h + 1) + 1
   omega
theorem low_mono {a b:Nat} (h:a≤b):low a≤low b:=by
 induction b with
 | zero=>rw [Nat.le_zero.mp h];exact Nat.le_refl _
 | succ b ih =>
   rcases Nat.lt_or_ge a (b + 1) with q | q
   · exact Nat.le_trans (ih (by omega)) (low_step b)
   · rw [Nat.le_antisymm h q];exact Nat.le_refl _
theorem mk_low {k:Nat}{d:D}{ts:List D}{h:Nat} (m:Mk k d ts h):low h≤ts.length:=by
 induction m with
 | non=>decide
 | @node num a l t r lt rt lh rh ml mr ht h1 h2 il ir =>
   rw [ord_len,List.length_append,List.length_cons]
   rcases Nat.le_total lh rh with q | q
   · rw [Nat.max_eq_right q]
     cases rh with
     | zero => have:lh=0:=by omega
               subst this;show 1≤_;omega
     | succ rh =>
       show low (rh + 1) + low rh + 1≤_
       have:=low_mono (show rh≤lh by omega)
       omega
   · rw [Nat.max_eq_left q]
     cases lh with
     | zero => have:rh=0:=by omega
               subst this;show 1≤_;omega
     | succ lh =>
       show low (lh + 1) + low lh + 1≤_
       have:=low_mono (show lh≤rh by omega)
       omega
theorem zdz {x j:Int} (h:0 < j):zbb (.int x) (.int j)=some (.int (x % j)):=by simp [zbb,F.opI,modI,h]
theorem div_e {x j:Int} (h:0 < j∧j < 1073741824):zdi (.int x) (.int j)=some (.int (x / j)):=by simp [zdi,F.opI,divI,h]
theorem mul_eL {x y:Int} (h:-(2 ^ 64) < x∧x < 2 ^ 64):opMul (.int x) (.int y)=some (.int (x * y)):=by
 simp only [opMul,F.opI,mulI];rw [if_pos (.inl h)];rfl
theorem mul_eR {x y:Int} (h:-(2 ^ 64) < y∧y < 2 ^ 64):opMul (.int x) (.int y)=some (.int (x * y)):=by
 simp only [opMul,F.opI,mulI];rw [if_pos (.inr (.inl h))];rfl
theorem last_at (S:Sto) (x:MO):(S++[x])[S.length]? = some x:=by simp
end Pg
set_option maxHeartbeats 8000000
namespace Pg
open PySem L2 F
noncomputable section
def up:Up:=⟨["NoPlace", "TooMany"],["Changed", "NoBalance", "NoMore", "NoName", "NoNumber", "NoPlace", "NoRow", "NoSum", "NoThing", "NoWay", "TooMany"]⟩
def c_Wood_numbered:C :=
 (sSeq (sSet 2 (eFld "Wood" "nodes_made" (eV 0))) (sSeq (zee "Wood" "nodes_made" (eV 0) (e2 zbc (eV 2) (eK (.int 1)))) (sRet (e2 zbc (eTup (aC (eV 2) aN)) (eV 1)))))
def zce:G:=zbe 3 2 c_Wood_numbered
def c_check_room:C :=
 (sIf (bE (e2 opGt (eV 0) (eK (.int 2000)))) sNever sNil)
def zbk:G:=zbe 1 1 c_check_room
def rc_check_room:R :=
 (rIf (bE (e2 opGt (eV 0) (eK (.int 2000)))) (rRaise "TooMany" (aC (eFmt (aC (eK (.str (Str.ofString "a make has at most "))) (aC (e1 fmtD (eK (.int 2000))) (aC (eK (.str (Str.ofString " things, not "))) (aC (e1 fmtD (eV 0)) aN))))) aN)) rNone)
def zbf:GR:=zfd 1 1 rc_check_room
def c_height:C :=
 (sSeq (sIf (bE (e2 opIs (eV 0) (eK .non))) (sRet (eK (.int 0))) sNil) (sRet (e2s opIx (eV 0) (eK (.int 6)))))
def zbi:G:=zbe 1 1 c_height
def c_height_above:C :=
 (sRet (e2 zbc (eK (.int 1)) (eA maxD (aC (zak zbi (aC (eV 0) aN)) (aC (zak zbi (aC (eV 1) aN)) aN)))))
def zdq:G:=zbe 2 2 c_height_above
def c_in_balance:C :=
 (sRet (e2 opLe (eA absD (aC (e2 zdu (zak zbi (aC (eV 0) aN)) (zak zbi (aC (eV 1) aN))) aN)) (eK (.int 1))))
def zcg:G:=zbe 2 2 c_in_balance
def c_size:C :=
 (sSeq (sIf (bE (e2 opIs (eV 0) (eK .non))) (sRet (eK (.int 0))) sNil) (sRet (e2s opIx (eV 0) (eK (.int 5)))))
def zaw:G:=zbe 1 1 c_size
def c_size_above:C :=
 (sRet (e2 zbc (e2 zbc (zak zaw (aC (eV 0) aN)) (eK (.int 1))) (zak zaw (aC (eV 1) aN))))
def zeu:G:=zbe 2 2 c_size_above
def c_back:C :=
 (sSeq (sIf (bE (e2 opIs (eV 0) (eK .non))) (sRet (eK .non)) sNil) (sRet (e2s opIx (eV 0) (eK (.int 8)))))
def g_back:G:=zbe 1 1 c_back
def ft:Str→Option G:=fun x =>
 none
def c_backward_sum:C :=
 (sSeq (sSet 4 (eV 2)) (sSeq (sIf (bE (e2 zer (eV 3) (eK .non))) (sSet 4 (eCallV ft (eV 0) (aC (zak g_back (aC (eV 3) aN)) (aC (eV 4) aN)))) sNil) (sSeq (sIf (bE (e2 zer (eV 1) (eK .non))) (sSet 4 (eCallV ft (eV 0) (aC (eV 4) (aC (zak g_back (aC (eV 1) aN)) aN)))) sNil) (sRet (eV 4)))))
def zel:G:=zbe 5 4 c_backward_sum
def c_total:C :=
 (sSeq (sIf (bE (e2 opIs (eV 0) (eK .non))) (sRet (eK .non)) sNil) (sRet (e2s opIx (eV 0) (eK (.int 7)))))
def zfa:G:=zbe 1 1 c_total
def c_onward_sum:C :=
 (sSeq (sSet 4 (eV 2)) (sSeq (sIf (bE (e2 zer (eV 1) (eK .non))) (sSet 4 (eCallV ft (eV 0) (aC (zak zfa (aC (eV 1) aN)) (aC (eV 4) aN)))) sNil) (sSeq (sIf (bE (e2 zer (eV 3) (eK .non))) (sSet 4 (eCallV ft (eV 0) (aC (eV 4) (aC (zak zfa (aC (eV 3) aN)) aN)))) sNil) (sRet (eV 4)))))
def zfk:G:=zbe 5 4 c_onward_sum
def c_sums_above:C :=
 (sSeq (sIf (bE (e2 opIs (eV 0) (eK .non))) (sRet (eTup (aC (eK .non) (aC (eK .non) aN)))) sNil) (sRet (eTup (aC (zak zfk (aC (eV 0) (aC (eV 1) (aC (eV 2) (aC (eV 3) aN))))) (aC (zak zel (aC (eV 0) (aC (eV 1) (aC (eV 2) (aC (eV 3) aN))))) aN)))))
def zea:G:=zbe 4 4 c_sums_above
def c_Wood_node:C :=
 (sSeq (sSet 4 (zak zeu (aC (eV 1) (aC (eV 3) aN)))) (sSeq (zds (zak zbk (aC (eV 4) aN))) (sSeq (sIf (bNot (bE (zak zcg (aC (eV 1) (aC (eV 3) aN))))) sNever sNil) (sSeq (sSet 5 (eTup (aC (eV 4) (aC (zak zdq (aC (eV 1) (aC (eV 3) aN))) aN)))) (sSeq (sSet 6 (zak zea (aC (eFld "Wood" "adding" (eV 0)) (aC (eV 1) (aC (eV 2) (aC (eV 3) aN)))))) (sRet (zbh "Wood" "numbered" zce (eV 0) (aC (e2 zbc (e2 zbc (eTup (aC (eK (.bl false)) (aC (eV 1) (aC (eV 2) (aC (eV 3) aN))))) (eV 5)) (eV 6)) aN))))))))
def zao:G:=zbe 7 4 c_Wood_node
def c_built (self:G):C :=
 (sSeq (sIf (bE (e2 opEq (eV 2) (eV 3))) (sRet (eK .non)) sNil) (sSeq (sSet 4 (e2 zdi (e2 zbc (eV 2) (eV 3)) (eK (.int 2)))) (sSeq (sSet 5 (zak (self) (aC (eV 0) (aC (eV 1) (aC (eV 2) (aC (eV 4) aN)))))) (sSeq (sSet 6 (zak (self) (aC (eV 0) (aC (eV 1) (aC (e2 zbc (eV 4) (eK (.int 1))) (aC (eV 3) aN)))))) (sRet (zbh "Wood" "node" zao (eV 0) (aC (eV 5) (aC (e2s opIx (eV 1) (eV 4)) (aC (eV 6) aN)))))))))
def g_built:Nat→G
 | 0=>fun _ _=>none
 | k + 1=>zbe 7 4 (c_built (g_built k))
def c_make_of:C :=
 (sSeq (zds (zak zbk (aC (eA lenD (aC (eV 1) aN)) aN))) (sRet (zak (g_built 40) (aC (eV 0) (aC (eV 1) (aC (eK (.int 0)) (aC (eA lenD (aC (eV 1) aN)) aN)))))))
def g_make_of:G:=zbe 2 2 c_make_of
def rc_make_of:R :=
 (rCall zbf (aC (eA lenD (aC (eV 1) aN)) aN))
def zfh:GR:=zfd 2 2 rc_make_of
def c_Shelf___init__:C :=
 (sSeq (zee "Shelf" "wood" (eV 0) (eV 1)) (sSeq (zee "Shelf" "held" (eV 0) (eK .non)) (sSeq (zee "Shelf" "done" (eV 0) (eNewL aN)) (sIf (bE (e2 zer (eV 2) (eK .non))) (zee "Shelf" "held" (eV 0) (zak g_make_of (aC (eV 1) (aC (eV 2) aN)))) sNil))))
def zas:G:=zbe 3 3 c_Shelf___init__
def rc_Shelf___init__:R :=
 (rSeq (zee "Shelf" "wood" (eV 0) (eV 1)) (rSeq (zee "Shelf" "held" (eV 0) (eK .non)) (rSeq (zee "Shelf" "done" (eV 0) (eNewL aN)) (rIf (bE (e2 zer (eV 2) (eK .non))) (rCall zfh (aC (eV 1) (aC (eV 2) aN))) rNone))))
def zcf:GR:=zfd 3 3 rc_Shelf___init__
def c_Shelf_deeds:C :=
 (sRet (eListW (aC (eFld "Shelf" "done" (eV 0)) aN)))
def zbx:G:=zbe 1 1 c_Shelf_deeds
def c_seen:C :=
 (sSeq (sIf (bE (e2 opEq (e2s opIx (eV 0) (eK (.int 1))) (eV 1))) (sRet (eTup (aC (e2s opIx (eV 0) (eK (.int 2))) (aC (e2s opIx (eV 0) (eK (.int 3))) (aC (e2s opIx (eV 0) (eK (.int 4))) (aC (eK (.bl false)) aN)))))) sNil) (sRet (eTup (aC (e2s opIx (eV 0) (eK (.int 4))) (aC (e2s opIx (eV 0) (eK (.int 3))) (aC (e2s opIx (eV 0) (eK (.int 2))) (aC (eK (.bl true)) aN)))))))
def g_seen:G:=zbe 2 2 c_seen
def c_gather (self:G):C :=
 (sSeq (sIf (bE (e2 opIs (eV 0) (eK .non))) sRetN sNil) (sSeq (sSet 3 (zak g_seen (aC (eV 0) (aC (eV 1) aN)))) (sSeq (zds (zak (self) (aC (e2s opIx (eV 3) (eK (.int 0))) (aC (e2s opIx (eV 3) (eK (.int 3))) (aC (eV 2) aN))))) (sSeq (zeh (eV 2) (e2s opIx (eV 3) (eK (.int 1)))) (zds (zak (self) (aC (e2s opIx (eV 3) (eK (.int 2))) (aC (e2s opIx (eV 3) (eK (.int 3))) (aC (eV 2) aN)))))))))
def g_gather:Nat→G
 | 0=>fun _ _=>none
 | k + 1=>zbe 4 3 (c_gather (g_gather k))
def c_things_of:C :=
 (sSeq (sSet 1 (eNewL aN)) (sSeq (zds (zak (g_gather 40) (aC (eV 0) (aC (eK (.bl false)) (aC (eV 1) aN))))) (sRet (eV 1))))
def zfb:G:=frz (zbe 2 1 c_things_of)
def c_Shelf_things:C :=
 (sRet (zak zfb (aC (eFld "Shelf" "held" (eV 0)) aN)))
def zbj:G:=zbe 1 1 c_Shelf_things
def c_Wood___init__:C :=
 (sSeq (zee "Wood" "adding" (eV 0) (eV 1)) (zee "Wood" "nodes_made" (eV 0) (eK (.int 0))))
def zcx:G:=zbe 2 2 c_Wood___init__
def c__law_amount:C :=
 (sSeq (sIf (bE (e2 opEq (e2 zbb (eV 0) (eK (.int 16))) (eK (.int 5)))) (sRet (e2 zbb (e2 zdi (eV 0) (eK (.int 16))) (eK (.int 300)))) sNil) (sSeq (sIf (bE (e2 opEq (e2 zbb (eV 0) (eK (.int 4))) (eK (.int 1)))) (sRet (e2 zbb (e2 zdi (eV 0) (eK (.int 16))) (eK (.int 60)))) sNil) (sRet (e2 zbb (e2 zdi (eV 0) (eK (.int 16))) (eK (.int 9))))))
def zfr:G:=zbe 1 1 c__law_amount
def c__law_cell:C :=
 (sSeq (sIf (bE (e2 opLt (eV 1) (eA lenD (aC (eV 0) aN)))) (sRet (e2s opIx (eV 0) (eV 1))) sNil) (sSeq (sSet 2 (e2 zbc (e2 opMul (eK (.int 5)) (eV 1)) (eK (.int 29)))) (sSeq (sIf (bE (e2 opGt (eA lenD (aC (eV 0) aN)) (eK (.int 0)))) (sSet 2 (e2 zbc (eV 2) (e2 opMul (e2 zbb (e2s opIx (eV 0) (e2 zbb (e2 opMul (eV 1) (eK (.int 3))) (eA lenD (aC (eV 0) aN)))) (eK (.int 1000000007))) (eK (.int 40507))))) sNil) (sRet (e2 zbc (e2 zbb (e2 opMul (eV 2) (eV 2)) (eK (.int 2147483563))) (eV 1))))))
def zdh:G:=zbe 3 2 c__law_cell
def c_Shelf_hold:C :=
 (sSeq (zee "Shelf" "held" (eV 0) (eV 1)) (zeh (eFld "Shelf" "done" (eV 0)) (eV 2)))
def zam:G:=zbe 3 3 c_Shelf_hold
def c_check_place:C :=
 (sIf (bNot (bE (eChain opLe opLt (eK (.int 0)) (eV 0) (eV 1)))) sNever sNil)
def zay:G:=zbe 2 2 c_check_place
def zff:R :=
 (rIf (bNot (bE (eChain opLe opLt (eK (.int 0)) (eV 0) (eV 1)))) (rRaise "NoPlace" (aC (eK (.str (Str.ofString "there is no such place"))) aN)) rNone)
def zap:GR:=zfd 2 2 zff
def c_thing_at (self:G):C :=
 (sSeq (sSet 3 (zak g_seen (aC (eV 0) (aC (eV 1) aN)))) (sSeq (sSet 4 (zak zaw (aC (e2s opIx (eV 3) (eK (.int 0))) aN))) (sSeq (sIf (bE (e2 opLt (eV 2) (eV 4))) (sRet (zak (self) (aC (e2s opIx (eV 3) (eK (.int 0))) (aC (e2s opIx (eV 3) (eK (.int 3))) (aC (eV 2) aN))))) sNil) (sSeq (sIf (bE (e2 opGt (eV 2) (eV 4))) (sRet (zak (self) (aC (e2s opIx (eV 3) (eK (.int 2))) (aC (e2s opIx (eV 3) (eK (.int 3))) (aC (e2 zdu (e2 zdu (eV 2) (eV 4)) (eK (.int 1))) aN))))) sNil) (sRet (e2s opIx (eV 3) (eK (.int 1))))))))
def zdp:Nat→G
 | 0=>fun _ _=>none
 | k + 1=>zbe 5 3 (c_thing_at (zdp k))
def c_at:C :=
 (sSeq (zds (zak zay (aC (eV 1) (aC (zak zaw (aC (eV 0) aN)) aN)))) (sRet (zak (zdp 40) (aC (eV 0) (aC (eK (.bl false)) (aC (eV 1) aN))))))
def g_at:G:=zbe 2 2 c_at
def rc_at:R :=
 (rCall zap (aC (eV 1) (aC (zak zaw (aC (eV 0) aN)) aN)))
def r_at:GR:=zfd 2 2 rc_at
def c_Wood_turned:C :=
 (sSeq (sIf (bE (e2 opIs (eV 1) (eK .non))) (sRet (eK .non)) sNil) (sSeq (sSet 2 (eTup (aC (e2s opIx (eV 1) (eK (.int 2))) (aC (e2s opIx (eV 1) (eK (.int 3))) (aC (e2s opIx (eV 1) (eK (.int 4))) aN))))) (sRet (zbh "Wood" "numbered" zce (eV 0) (aC (e2 zbc (e2 zbc (eTup (aC (eNot (e2s opIx (eV 1) (eK (.int 1)))) aN)) (eV 2)) (eTup (aC (zak zaw (aC (eV 1) aN)) (aC (zak zbi (aC (eV 1) aN)) (aC (zak g_back (aC (eV 1) aN)) (aC (zak zfa (aC (eV 1) aN)) aN)))))) aN)))))
def zbn:G:=zbe 3 2 c_Wood_turned
def c_parts:C :=
 (sSeq (sIf (bNot (bE (e2s opIx (eV 1) (eK (.int 1))))) (sRet (eTup (aC (e2s opIx (eV 1) (eK (.int 2))) (aC (e2s opIx (eV 1) (eK (.int 3))) (aC (e2s opIx (eV 1) (eK (.int 4))) aN))))) sNil) (sSeq (sSet 2 (zbh "Wood" "turned" zbn (eV 0) (aC (e2s opIx (eV 1) (eK (.int 4))) aN))) (sSeq (sSet 3 (zbh "Wood" "turned" zbn (eV 0) (aC (e2s opIx (eV 1) (eK (.int 2))) aN))) (sRet (eTup (aC (eV 2) (aC (e2s opIx (eV 1) (eK (.int 3))) (aC (eV 3) aN))))))))
def zch:G:=zbe 4 2 c_parts
def c_lifted_left:C :=
 (sSeq (sSet 4 (zak zch (aC (eV 0) (aC (eV 1) aN)))) (sSeq (sIf (bE (e2 opGe (zak zbi (aC (e2s opIx (eV 4) (eK (.int 0))) aN)) (zak zbi (aC (e2s opIx (eV 4) (eK (.int 2))) aN)))) (sRet (zbh "Wood" "node" zao (eV 0) (aC (e2s opIx (eV 4) (eK (.int 0))) (aC (e2s opIx (eV 4) (eK (.int 1))) (aC (zbh "Wood" "node" zao (eV 0) (aC (e2s opIx (eV 4) (eK (.int 2))) (aC (eV 2) (aC (eV 3) aN)))) aN))))) sNil) (sSeq (sSet 5 (zak zch (aC (eV 0) (aC (e2s opIx (eV 4) (eK (.int 2))) aN)))) (sSeq (sSet 6 (zbh "Wood" "node" zao (eV 0) (aC (e2s opIx (eV 4) (eK (.int 0))) (aC (e2s opIx (eV 4) (eK (.int 1))) (aC (e2s opIx (eV 5) (eK (.int 0))) aN))))) (sSeq (sSet 7 (zbh "Wood" "node" zao (eV 0) (aC (e2s opIx (eV 5) (eK (.int 2))) (aC (eV 2) (aC (eV 3) aN))))) (sRet (zbh "Wood" "node" zao (eV 0) (aC (eV 6) (aC (e2s opIx (eV 5) (eK (.int 1))) (aC (eV 7) aN))))))))))
def zew:G:=zbe 8 4 c_lifted_left
def c_lifted_right:C :=
 (sSeq (sSet 4 (zak zch (aC (eV 0) (aC (eV 3) aN)))) (sSeq (sIf (bE (e2 opGe (zak zbi (aC (e2s opIx (eV 4) (eK (.int 2))) aN)) (zak zbi (aC (e2s opIx (eV 4) (eK (.int 0))) aN)))) (sRet (zbh "Wood" "node" zao (eV 0) (aC (zbh "Wood" "node" zao (eV 0) (aC (eV 1) (aC (eV 2) (aC (e2s opIx (eV 4) (eK (.int 0))) aN)))) (aC (e2s opIx (eV 4) (eK (.int 1))) (aC (e2s opIx (eV 4) (eK (.int 2))) aN))))) sNil) (sSeq (sSet 5 (zak zch (aC (eV 0) (aC (e2s opIx (eV 4) (eK (.int 0))) aN)))) (sSeq (sSet 6 (zbh "Wood" "node" zao (eV 0) (aC (eV 1) (aC (eV 2) (aC (e2s opIx (eV 5) (eK (.int 0))) aN))))) (sSeq (sSet 7 (zbh "Wood" "node" zao (eV 0) (aC (e2s opIx (eV 5) (eK (.int 2))) (aC (e2s opIx (eV 4) (eK (.int 1))) (aC (e2s opIx (eV 4) (eK (.int 2))) aN))))) (sRet (zbh "Wood" "node" zao (eV 0) (aC (eV 6) (aC (e2s opIx (eV 5) (eK (.int 1))) (aC (eV 7) aN))))))))))
def zek:G:=zbe 8 4 c_lifted_right
def c_balanced:C :=
 (sSeq (sIf (bE (zak zcg (aC (eV 1) (aC (eV 3) aN)))) (sRet (zbh "Wood" "node" zao (eV 0) (aC (eV 1) (aC (eV 2) (aC (eV 3) aN))))) sNil) (sSeq (sIf (bE (e2 opGt (zak zbi (aC (eV 1) aN)) (zak zbi (aC (eV 3) aN)))) (sRet (zak zew (aC (eV 0) (aC (eV 1) (aC (eV 2) (aC (eV 3) aN)))))) sNil) (sRet (zak zek (aC (eV 0) (aC (eV 1) (aC (eV 2) (aC (eV 3) aN))))))))
def zco:G:=zbe 4 4 c_balanced
def c_joined (self:G):C :=
 (sSeq (sIf (bE (zak zcg (aC (eV 1) (aC (eV 3) aN)))) (sRet (zbh "Wood" "node" zao (eV 0) (aC (eV 1) (aC (eV 2) (aC (eV 3) aN))))) sNil) (sSeq (sIf (bE (e2 opGt (zak zbi (aC (eV 1) aN)) (zak zbi (aC (eV 3) aN)))) (sSeq (sSet 4 (zak zch (aC (eV 0) (aC (eV 1) aN)))) (sRet (zak zco (aC (eV 0) (aC (e2s opIx (eV 4) (eK (.int 0))) (aC (e2s opIx (eV 4) (eK (.int 1))) (aC (zak (self) (aC (eV 0) (aC (e2s opIx (eV 4) (eK (.int 2))) (aC (eV 2) (aC (eV 3) aN))))) aN))))))) sNil) (sSeq (sSet 4 (zak zch (aC (eV 0) (aC (eV 3) aN)))) (sRet (zak zco (aC (eV 0) (aC (zak (self) (aC (eV 0) (aC (eV 1) (aC (eV 2) (aC (e2s opIx (eV 4) (eK (.int 0))) aN))))) (aC (e2s opIx (eV 4) (eK (.int 1))) (aC (e2s opIx (eV 4) (eK (.int 2))) aN)))))))))
def zex:Nat→G
 | 0=>fun _ _=>none
 | k + 1=>zbe 5 4 (c_joined (zex k))
def c_laid_together (self:G):C :=
 (sSeq (sIf (bE (e2 opIs (eV 1) (eK .non))) (sRet (eV 2)) sNil) (sSeq (sIf (bE (e2 opIs (eV 2) (eK .non))) (sRet (eV 1)) sNil) (sRet (zak (zex 40) (aC (eV 0) (aC (eV 1) (aC (zak (zdp 40) (aC (eV 2) (aC (eK (.bl false)) (aC (eK (.int 0)) aN)))) (aC (zak (self) (aC (eV 0) (aC (eV 2) (aC (eK (.int 0)) aN)))) aN))))))))
def zdn (self:G):G:=zbe 3 3 (c_laid_together self)
def c_taken_out (self aux:G):C :=
 (sSeq (sSet 3 (zak zch (aC (eV 0) (aC (eV 1) aN)))) (sSeq (sSet 4 (zak zaw (aC (e2s opIx (eV 3) (eK (.int 0))) aN))) (sSeq (sIf (bE (e2 opLt (eV 2) (eV 4))) (sRet (zak zco (aC (eV 0) (aC (zak (self) (aC (eV 0) (aC (e2s opIx (eV 3) (eK (.int 0))) (aC (eV 2) aN)))) (aC (e2s opIx (eV 3) (eK (.int 1))) (aC (e2s opIx (eV 3) (eK (.int 2))) aN)))))) sNil) (sSeq (sIf (bE (e2 opGt (eV 2) (eV 4))) (sRet (zak zco (aC (eV 0) (aC (e2s opIx (eV 3) (eK (.int 0))) (aC (e2s opIx (eV 3) (eK (.int 1))) (aC (zak (self) (aC (eV 0) (aC (e2s opIx (eV 3) (eK (.int 2))) (aC (e2 zdu (e2 zdu (eV 2) (eV 4)) (eK (.int 1))) aN)))) aN)))))) sNil) (sRet (zak (aux) (aC (eV 0) (aC (e2s opIx (eV 3) (eK (.int 0))) (aC (e2s opIx (eV 3) (eK (.int 2))) aN)))))))))
def zcw:Nat→G
 | 0=>fun _ _=>none
 | k + 1=>zbe 5 3 (c_taken_out (zcw k) (zdn (zcw k)))
def zcm:G:=zdn (zcw 40)
def c_out:C :=
 (sSeq (zds (zak zay (aC (eV 2) (aC (zak zaw (aC (eV 1) aN)) aN)))) (sRet (zak (zcw 40) (aC (eV 0) (aC (eV 1) (aC (eV 2) aN))))))
def g_out:G:=zbe 3 3 c_out
def rc_out:R :=
 (rCall zap (aC (eV 2) (aC (zak zaw (aC (eV 1) aN)) aN)))
def r_out:GR:=zfd 3 3 rc_out
def c_Shelf_out:C :=
 (sSeq (sSet 2 (zak g_at (aC (eFld "Shelf" "held" (eV 0)) (aC (eV 1) aN)))) (sSeq (zds (zbh "Shelf" "hold" zam (eV 0) (aC (zak g_out (aC (eFld "Shelf" "wood" (eV 0)) (aC (eFld "Shelf" "held" (eV 0)) (aC (eV 1) aN)))) (aC (eTup (aC (eK (.str (Str.ofString "out"))) (aC (eV 1) aN))) aN)))) (sRet (eV 2))))
def zci:G:=zbe 3 2 c_Shelf_out
def rc_Shelf_out:R :=
 (rOr (rCall r_at (aC (eFld "Shelf" "held" (eV 0)) (aC (eV 1) aN))) (rSeq (sSet 2 (zak g_at (aC (eFld "Shelf" "held" (eV 0)) (aC (eV 1) aN)))) (rMethA "Shelf" "hold" (eV 0) (rCall r_out (aC (eFld "Shelf" "wood" (eV 0)) (aC (eFld "Shelf" "held" (eV 0)) (aC (eV 1) aN)))))))
def zep:GR:=zfd 3 2 rc_Shelf_out
def c_put_in (self:G):C :=
 (sSeq (sIf (bE (e2 opIs (eV 1) (eK .non))) (sRet (zbh "Wood" "node" zao (eV 0) (aC (eK .non) (aC (eV 3) (aC (eK .non) aN))))) sNil) (sSeq (sSet 4 (zak zch (aC (eV 0) (aC (eV 1) aN)))) (sSeq (sSet 5 (zak zaw (aC (e2s opIx (eV 4) (eK (.int 0))) aN))) (sSeq (sIf (bE (e2 opLe (eV 2) (eV 5))) (sRet (zak zco (aC (eV 0) (aC (zak (self) (aC (eV 0) (aC (e2s opIx (eV 4) (eK (.int 0))) (aC (eV 2) (aC (eV 3) aN))))) (aC (e2s opIx (eV 4) (eK (.int 1))) (aC (e2s opIx (eV 4) (eK (.int 2))) aN)))))) sNil) (sRet (zak zco (aC (eV 0) (aC (e2s opIx (eV 4) (eK (.int 0))) (aC (e2s opIx (eV 4) (eK (.int 1))) (aC (zak (self) (aC (eV 0) (aC (e2s opIx (eV 4) (eK (.int 2))) (aC (e2 zdu (e2 zdu (eV 2) (eV 5)) (eK (.int 1))) (aC (eV 3) aN))))) aN))))))))))
def g_put_in:Nat→G
 | 0=>fun _ _=>none
 | k + 1=>zbe 6 4 (c_put_in (g_put_in k))
def c_put:C :=
 (sSeq (zds (zak zay (aC (eV 2) (aC (e2 zbc (zak zaw (aC (eV 1) aN)) (eK (.int 1))) aN)))) (sSeq (zds (zak zbk (aC (e2 zbc (zak zaw (aC (eV 1) aN)) (eK (.int 1))) aN))) (sRet (zak (g_put_in 40) (aC (eV 0) (aC (eV 1) (aC (eV 2) (aC (eV 3) aN))))))))
def g_put:G:=zbe 4 4 c_put
def rc_put:R :=
 (rOr (rCall zap (aC (eV 2) (aC (e2 zbc (zak zaw (aC (eV 1) aN)) (eK (.int 1))) aN))) (rSeq (zds (zak zay (aC (eV 2) (aC (e2 zbc (zak zaw (aC (eV 1) aN)) (eK (.int 1))) aN)))) (rCall zbf (aC (e2 zbc (zak zaw (aC (eV 1) aN)) (eK (.int 1))) aN))))
def r_put:GR:=zfd 4 4 rc_put
def c_Shelf_put:C :=
 (zds (zbh "Shelf" "hold" zam (eV 0) (aC (zak g_put (aC (eFld "Shelf" "wood" (eV 0)) (aC (eFld "Shelf" "held" (eV 0)) (aC (eV 1) (aC (eV 2) aN))))) (aC (eTup (aC (eK (.str (Str.ofString "put"))) (aC (eV 1) aN))) aN))))
def zbt:G:=zbe 3 3 c_Shelf_put
def rc_Shelf_put:R :=
 (rMethA "Shelf" "hold" (eV 0) (rCall r_put (aC (eFld "Shelf" "wood" (eV 0)) (aC (eFld "Shelf" "held" (eV 0)) (aC (eV 1) (aC (eV 2) aN))))))
def zcv:GR:=zfd 3 3 rc_Shelf_put
def c_given (self:G):C :=
 (sSeq (sSet 4 (zak zch (aC (eV 0) (aC (eV 1) aN)))) (sSeq (sSet 5 (zak zaw (aC (e2s opIx (eV 4) (eK (.int 0))) aN))) (sSeq (sIf (bE (e2 opLt (eV 2) (eV 5))) (sRet (zbh "Wood" "node" zao (eV 0) (aC (zak (self) (aC (eV 0) (aC (e2s opIx (eV 4) (eK (.int 0))) (aC (eV 2) (aC (eV 3) aN))))) (aC (e2s opIx (eV 4) (eK (.int 1))) (aC (e2s opIx (eV 4) (eK (.int 2))) aN))))) sNil) (sSeq (sIf (bE (e2 opGt (eV 2) (eV 5))) (sRet (zbh "Wood" "node" zao (eV 0) (aC (e2s opIx (eV 4) (eK (.int 0))) (aC (e2s opIx (eV 4) (eK (.int 1))) (aC (zak (self) (aC (eV 0) (aC (e2s opIx (eV 4) (eK (.int 2))) (aC (e2 zdu (e2 zdu (eV 2) (eV 5)) (eK (.int 1))) (aC (eV 3) aN))))) aN))))) sNil) (sRet (zbh "Wood" "node" zao (eV 0) (aC (e2s opIx (eV 4) (eK (.int 0))) (aC (eV 3) (aC (e2s opIx (eV 4) (eK (.int 2))) aN)))))))))
def g_given:Nat→G
 | 0=>fun _ _=>none
 | k + 1=>zbe 6 4 (c_given (g_given k))
def c_swapped:C :=
 (sSeq (zds (zak zay (aC (eV 2) (aC (zak zaw (aC (eV 1) aN)) aN)))) (sRet (zak (g_given 40) (aC (eV 0) (aC (eV 1) (aC (eV 2) (aC (eV 3) aN)))))))
def g_swapped:G:=zbe 4 4 c_swapped
def rc_swapped:R :=
 (rCall zap (aC (eV 2) (aC (zak zaw (aC (eV 1) aN)) aN)))
def zev:GR:=zfd 4 4 rc_swapped
def c_Shelf_swap:C :=
 (zds (zbh "Shelf" "hold" zam (eV 0) (aC (zak g_swapped (aC (eFld "Shelf" "wood" (eV 0)) (aC (eFld "Shelf" "held" (eV 0)) (aC (eV 1) (aC (eV 2) aN))))) (aC (eTup (aC (eK (.str (Str.ofString "swap"))) (aC (eV 1) aN))) aN))))
def zdc:G:=zbe 3 3 c_Shelf_swap
def rc_Shelf_swap:R :=
 (rMethA "Shelf" "hold" (eV 0) (rCall zev (aC (eFld "Shelf" "wood" (eV 0)) (aC (eFld "Shelf" "held" (eV 0)) (aC (eV 1) (aC (eV 2) aN))))))
def zdx:GR:=zfd 3 3 rc_Shelf_swap
def c_check_stretch:C :=
 (sIf (bNot (bE (eChain3 opLe opLe opLe (eK (.int 0)) (eV 1) (eV 2) (zak zaw (aC (eV 0) aN))))) sNever sNil)
def zdj:G:=zbe 3 3 c_check_stretch
def zfn:R :=
 (rIf (bNot (bE (eChain3 opLe opLe opLe (eK (.int 0)) (eV 1) (eV 2) (zak zaw (aC (eV 0) aN))))) (rRaise "NoPlace" (aC (eK (.str (Str.ofString "there is no such stretch"))) aN)) rNone)
def zcl:GR:=zfd 3 3 zfn
def c_cut_ahead (self:G):C :=
 (sSeq (sIf (bE (e2 opEq (eV 2) (eK (.int 0)))) (sRet (eTup (aC (eK .non) (aC (eV 1) aN)))) sNil) (sSeq (sIf (bE (e2 opEq (eV 2) (zak zaw (aC (eV 1) aN)))) (sRet (eTup (aC (eV 1) (aC (eK .non) aN)))) sNil) (sSeq (sSet 3 (zak zch (aC (eV 0) (aC (eV 1) aN)))) (sSeq (sSet 4 (zak zaw (aC (e2s opIx (eV 3) (eK (.int 0))) aN))) (sSeq (sIf (bE (e2 opLe (eV 2) (eV 4))) (sSeq (sSet 5 (zak (self) (aC (eV 0) (aC (e2s opIx (eV 3) (eK (.int 0))) (aC (eV 2) aN))))) (sRet (eTup (aC (e2s opIx (eV 5) (eK (.int 0))) (aC (zak (zex 40) (aC (eV 0) (aC (e2s opIx (eV 5) (eK (.int 1))) (aC (e2s opIx (eV 3) (eK (.int 1))) (aC (e2s opIx (eV 3) (eK (.int 2))) aN))))) aN))))) sNil) (sSeq (sSet 5 (zak (self) (aC (eV 0) (aC (e2s opIx (eV 3) (eK (.int 2))) (aC (e2 zdu (e2 zdu (eV 2) (eV 4)) (eK (.int 1))) aN))))) (sRet (eTup (aC (zak (zex 40) (aC (eV 0) (aC (e2s opIx (eV 3) (eK (.int 0))) (aC (e2s opIx (eV 3) (eK (.int 1))) (aC (e2s opIx (eV 5) (eK (.int 0))) aN))))) (aC (e2s opIx (eV 5) (eK (.int 1))) aN))))))))))
def zdf:Nat→G
 | 0=>fun _ _=>none
 | k + 1=>zbe 6 3 (c_cut_ahead (zdf k))
def c_turned_part:C :=
 (sSeq (zds (zak zdj (aC (eV 1) (aC (eV 2) (aC (eV 3) aN))))) (sSeq (sSet 4 (zak (zdf 40) (aC (eV 0) (aC (eV 1) (aC (eV 3) aN))))) (sSeq (sSet 5 (zak (zdf 40) (aC (eV 0) (aC (e2s opIx (eV 4) (eK (.int 0))) (aC (eV 2) aN))))) (sSeq (sSet 6 (zak zcm (aC (eV 0) (aC (e2s opIx (eV 5) (eK (.int 0))) (aC (zbh "Wood" "turned" zbn (eV 0) (aC (e2s opIx (eV 5) (eK (.int 1))) aN)) aN))))) (sRet (zak zcm (aC (eV 0) (aC (eV 6) (aC (e2s opIx (eV 4) (eK (.int 1))) aN)))))))))
def zdm:G:=zbe 7 4 c_turned_part
def rc_turned_part:R :=
 (rCall zcl (aC (eV 1) (aC (eV 2) (aC (eV 3) aN))))
def zcs:GR:=zfd 7 4 rc_turned_part
def c_Shelf_turned:C :=
 (zds (zbh "Shelf" "hold" zam (eV 0) (aC (zak zdm (aC (eFld "Shelf" "wood" (eV 0)) (aC (eFld "Shelf" "held" (eV 0)) (aC (eV 1) (aC (eV 2) aN))))) (aC (eTup (aC (eK (.str (Str.ofString "turned"))) (aC (eV 1) (aC (eV 2) aN)))) aN))))
def zbv:G:=zbe 3 3 c_Shelf_turned
def rc_Shelf_turned:R :=
 (rMethA "Shelf" "hold" (eV 0) (rCall zcs (aC (eFld "Shelf" "wood" (eV 0)) (aC (eFld "Shelf" "held" (eV 0)) (aC (eV 1) (aC (eV 2) aN))))))
def zcj:GR:=zfd 3 3 rc_Shelf_turned
def c__law_thing:C :=
 (sSeq (sIf (bE (e2 opEq (eV 1) (eK (.int 0)))) (sRet (e2 opMulS (e2s opIx (eK (.str (Str.ofString "abcdefghijklmnopqrstuvwxyz"))) (e2 zbb (eV 0) (eK (.int 26)))) (e2 zbc (eK (.int 1)) (e2 zbb (e2 zdi (eV 0) (eK (.int 26))) (eK (.int 3)))))) sNil) (sSeq (sIf (bE (e2 opEq (eV 1) (eK (.int 1)))) (sSeq (sSet 2 (e2 zdu (e2 zbb (e2 opMul (eV 0) (e2 opPow (eK (.int 10)) (eK (.int 50)))) (e2 zbc (e2 opMul (eK (.int 2)) (e2 opPow (eK (.int 10)) (eK (.int 59)))) (eK (.int 1)))) (e2 opPow (eK (.int 10)) (eK (.int 59))))) (sRet (e2s opIx (eLst (aC (e2 zdu (e2 zbb (eV 0) (eK (.int 7))) (eK (.int 3))) (aC (eV 2) (aC (eV 0) (aC (eK (.int 0)) aN))))) (e2 zbb (e2 zdi (eV 0) (eK (.int 7))) (eK (.int 4)))))) sNil) (sSeq (sIf (bE (e2 opEq (eV 1) (eK (.int 2)))) (sRet (eTup (aC (e2 zbb (eV 0) (eK (.int 1009))) (aC (e2 zbb (e2 zdi (eV 0) (eK (.int 1009))) (eK (.int 1009))) aN)))) sNil) (sRet (e2 zbb (eV 0) (eK (.int 9)))))))
def zcu:G:=zbe 3 2 c__law_thing
def c__law_deed:C :=
 (sSeq (sSet 5 (e2 zbb (eV 3) (eK (.int 5)))) (sSeq (sSet 3 (e2 zdi (eV 3) (eK (.int 5)))) (sSeq (sSet 6 (e2 zbb (eV 3) (e2 zbc (eA lenD (aC (eV 1) aN)) (eK (.int 1))))) (sSeq (sSet 7 (zak zcu (aC (e2 zdi (eV 3) (eK (.int 400))) (aC (eV 4) aN)))) (sSeq (sIf (bAnd (bE (e2 opEq (eV 5) (eK (.int 0)))) (bE (e2 opLt (eV 6) (eA lenD (aC (eV 1) aN))))) (sSeq (sSet 8 (zbh "Shelf" "out" zci (eV 0) (aC (eV 6) aN))) (sSeq (zeh (eV 2) (eTup (aC (eK (.str (Str.ofString "out"))) (aC (eV 6) aN)))) (sRet (e2 opEq (eV 8) (eLm opPopAt (eV 1) (aC (eV 6) aN)))))) sNil) (sSeq (sIf (bAnd (bE (e2 opEq (eV 5) (eK (.int 1)))) (bE (e2 opLt (eV 6) (eA lenD (aC (eV 1) aN))))) (sSeq (sItem (eV 1) (eV 6) (eV 7)) (sSeq (zeh (eV 2) (eTup (aC (eK (.str (Str.ofString "swap"))) (aC (eV 6) aN)))) (sRet (e2 opIs (zbh "Shelf" "swap" zdc (eV 0) (aC (eV 6) (aC (eV 7) aN))) (eK .non))))) sNil) (sSeq (sIf (bE (e2 opEq (eV 5) (eK (.int 2)))) (sSeq (sSet 9 (e2 zbc (eV 6) (e2 zbb (e2 zdi (eV 3) (eK (.int 400))) (e2 zdu (e2 zbc (eA lenD (aC (eV 1) aN)) (eK (.int 1))) (eV 6))))) (sSeq (sSlSet (eV 1) (pE (eV 6)) (pE (eV 9)) (e1 opRev (eSlM (eV 1) (pE (eV 6)) (pE (eV 9))))) (sSeq (zeh (eV 2) (eTup (aC (eK (.str (Str.ofString "turned"))) (aC (eV 6) (aC (eV 9) aN))))) (sRet (e2 opIs (zbh "Shelf" "turned" zbv (eV 0) (aC (eV 6) (aC (eV 9) aN))) (eK .non)))))) sNil) (sSeq (zds (eLm opInsert (eV 1) (aC (eV 6) (aC (eV 7) aN)))) (sSeq (zeh (eV 2) (eTup (aC (eK (.str (Str.ofString "put"))) (aC (eV 6) aN)))) (sRet (e2 opIs (zbh "Shelf" "put" zbt (eV 0) (aC (eV 6) (aC (eV 7) aN))) (eK .non))))))))))))
def zfc:G:=zbe 10 5 c__law_deed
def c__law_drawn:C :=
 (sSeq (sSet 2 (e2 zbb (eV 0) (eK (.int 998244353)))) (sSeq (sSet 3 (eNewL aN)) (sSeq (sForR 4 (e2 zbc (eV 1) (eK (.int 2))) (sSeq (sSet 2 (e2 zbb (e2 zbc (e2 zbc (e2 opMul (eV 2) (e2 zbc (e2 zbc (eV 2) (e2 opMul (eK (.int 2)) (eV 4))) (eK (.int 91)))) (e2 opMul (eK (.int 1013)) (eV 4))) (eK (.int 7))) (eK (.int 998244353)))) (zeh (eV 3) (e2 zdi (eV 2) (eK (.int 5)))))) (sRet (eSlM (eV 3) (pE (eK (.int 2))) pN)))))
def zec:G:=frz (zbe 5 2 c__law_drawn)
def c_Shelf_make:C :=
 (sRet (eFld "Shelf" "held" (eV 0)))
def zdd:G:=zbe 1 1 c_Shelf_make
def c_laid:C :=
 (sSeq (zds (zak zbk (aC (e2 zbc (zak zaw (aC (eV 1) aN)) (zak zaw (aC (eV 2) aN))) aN))) (sRet (zak zcm (aC (eV 0) (aC (eV 1) (aC (eV 2) aN))))))
def g_laid:G:=zbe 3 3 c_laid
def rc_laid:R :=
 (rCall zbf (aC (e2 zbc (zak zaw (aC (eV 1) aN)) (zak zaw (aC (eV 2) aN))) aN))
def r_laid:GR:=zfd 3 3 rc_laid
def c_Shelf_laid:C :=
 (sSeq (sSet 2 (zbh "Shelf" "make" zdd (eV 1) aN)) (zds (zbh "Shelf" "hold" zam (eV 0) (aC (zak g_laid (aC (eFld "Shelf" "wood" (eV 0)) (aC (eFld "Shelf" "held" (eV 0)) (aC (eV 2) aN)))) (aC (eTup (aC (eK (.str (Str.ofString "laid"))) (aC (zak zaw (aC (eV 2) aN)) aN))) aN)))))
def zde:G:=zbe 3 2 c_Shelf_laid
def rc_Shelf_laid:R :=
 (rSeq (sSet 2 (zbh "Shelf" "make" zdd (eV 1) aN)) (rMethA "Shelf" "hold" (eV 0) (rCall r_laid (aC (eFld "Shelf" "wood" (eV 0)) (aC (eFld "Shelf" "held" (eV 0)) (aC (eV 2) aN))))))
def zdy:GR:=zfd 3 2 rc_Shelf_laid
def c__law_kind_of:C :=
 (sSeq (sIf (bE (eA (isiX up) (aC (eV 0) (aC (eTup (aC (eK (.fn "Changed")) (aC (eK (.fn "NoBalance")) (aC (eK (.fn "NoMore")) (aC (eK (.fn "NoName")) (aC (eK (.fn "NoNumber")) (aC (eK (.fn "NoRow")) (aC (eK (.fn "NoSum")) (aC (eK (.fn "NoThing")) (aC (eK (.fn "NoWay")) aN)))))))))) aN)))) (sRet (eK (.str (Str.ofString "other")))) sNil) (sSeq (sSet 1 (eLst (aC (eA (isiX up) (aC (eV 0) (aC (eK (.fn "NoPlace")) aN))) (aC (eA (isiX up) (aC (eV 0) (aC (eK (.fn "TooMany")) aN))) aN)))) (sSeq (sIf (bOr (bE (e2 opNe (eA sumBD (aC (eV 1) aN)) (eK (.int 1)))) (bNot (bE (eA (isiX up) (aC (eV 0) (aC (eK (.ty "ValueError")) aN)))))) (sRet (eK (.str (Str.ofString "other")))) sNil) (sRet (e2s opIx (eLst (aC (eK (.str (Str.ofString "place"))) (aC (eK (.str (Str.ofString "many"))) aN))) (eA intD (aC (e2s opIx (eV 1) (eK (.int 1))) aN)))))))
def zbq:G:=zbe 2 1 c__law_kind_of
def c__law_more:C :=
 (sSeq (sSet 3 (eK .non)) (sSeq (sTry (sIf (bE (e2 opIs (eV 1) (eK .non))) (zds (zbh "Shelf" "put" zbt (eV 0) (aC (eV 2) (aC (eK (.str (Str.ofString "a"))) aN)))) (zds (zbh "Shelf" "laid" zde (eV 0) (aC (eV 1) aN)))) (rIf (bE (e2 opIs (eV 1) (eK .non))) (rMeth "Shelf" "put" zcv (eV 0) (aC (eV 2) (aC (eK (.str (Str.ofString "a"))) aN))) (rMeth "Shelf" "laid" zdy (eV 0) (aC (eV 1) aN))) up.cat 4 (sSet 3 (eV 4))) (sRet (zak zbq (aC (eV 3) aN)))))
def zdg:G:=frz (zbe 5 3 c__law_more)
def c__law_not_made:C :=
 (sSeq (sSet 1 (eK .non)) (sSeq (sTry (zds (eMake "Shelf" zas (aC (eV 0) (aC (eRepL (aC (eK (.str (Str.ofString "x"))) aN) (eK (.int 2001))) aN)))) (rMake "Shelf" zcf (aC (eV 0) (aC (eRepL (aC (eK (.str (Str.ofString "x"))) aN) (eK (.int 2001))) aN))) up.cat 2 (sSet 1 (eV 2))) (sRet (e2 opEq (zak zbq (aC (eV 1) aN)) (eK (.str (Str.ofString "many")))))))
def zeb:G:=frz (zbe 3 1 c__law_not_made)
def c__law_full:C :=
 (sSeq (sSet 3 (eA lenD (aC (zbh "Shelf" "things" zbj (eV 0) aN) aN))) (sSeq (sIf (bNot (bE (zak zeb (aC (eV 1) aN)))) (sRet (eK (.bl false))) sNil) (sSeq (sSet 4 (zbh "Shelf" "deeds" zbx (eV 0) aN)) (sSeq (sSet 5 (eMake "Shelf" zas (aC (eV 1) (aC (eRepL (aC (eK (.str (Str.ofString "z"))) aN) (e2 zdu (eK (.int 2000)) (eV 3))) aN)))) (sSeq (sIf (bOr (bE (e2 opNe (zak zdg (aC (eV 0) (aC (eV 0) (aC (eK (.int 0)) aN)))) (eK (.str (Str.ofString "many"))))) (bE (e2 opNe (zak zdg (aC (eV 0) (aC (eMake "Shelf" zas (aC (eV 1) (aC (eRepL (aC (eK (.str (Str.ofString "y"))) aN) (e2 zdu (eK (.int 2001)) (eV 3))) aN))) (aC (eK (.int 0)) aN)))) (eK (.str (Str.ofString "many")))))) (sRet (eK (.bl false))) sNil) (sSeq (sIf (bOr (bE (e2s opNeO (zbh "Shelf" "deeds" zbx (eV 0) aN) (eV 4))) (bOr (bE (e2 opNe (eA lenD (aC (zbh "Shelf" "things" zbj (eV 0) aN) aN)) (eV 3))) (bE (e2 zer (zbh "Shelf" "laid" zde (eV 0) (aC (eV 5) aN)) (eK .non))))) (sRet (eK (.bl false))) sNil) (sSeq (sIf (bOr (bE (e2 opNe (zak zdg (aC (eV 0) (aC (eK .non) (aC (e2 zbb (eV 2) (eK (.int 2001))) aN)))) (eK (.str (Str.ofString "many"))))) (bE (e2 opNe (zak zdg (aC (eV 0) (aC (eK .non) (aC (e2 zbc (eK (.int 2001)) (e2 zbb (eV 2) (eK (.int 9)))) aN)))) (eK (.str (Str.ofString "place")))))) (sRet (eK (.bl false))) sNil) (sSeq (sSet 6 (e2s opIx (zbh "Shelf" "things" zbj (eV 0) aN) (e1 negD (eK (.int 1))))) (sSeq (sIf (bOr (bE (e2 opNe (zbh "Shelf" "out" zci (eV 0) (aC (eK (.int 1999)) aN)) (eV 6))) (bE (e2 zer (zbh "Shelf" "put" zbt (eV 0) (aC (e2 zbb (eV 2) (eK (.int 2000))) (aC (eK (.str (Str.ofString "b"))) aN))) (eK .non)))) (sRet (eK (.bl false))) sNil) (sSeq (sSet 7 (eLst (aC (eTup (aC (eK (.str (Str.ofString "laid"))) (aC (e2 zdu (eK (.int 2000)) (eV 3)) aN))) (aC (eTup (aC (eK (.str (Str.ofString "out"))) (aC (eK (.int 1999)) aN))) (aC (eTup (aC (eK (.str (Str.ofString "put"))) (aC (e2 zbb (eV 2) (eK (.int 2000))) aN))) aN))))) (sRet (eAnd (e2 opEq (zbh "Shelf" "deeds" zbx (eV 0) aN) (e2s opAddL (eV 4) (eV 7))) (e2 opEq (eA lenD (aC (zbh "Shelf" "things" zbj (eV 0) aN) aN)) (eK (.int 2000)))))))))))))))
def g__law_full:G:=zbe 8 3 c__law_full
def c_cut:C :=
 (sSeq (zds (zak zay (aC (eV 2) (aC (e2 zbc (zak zaw (aC (eV 1) aN)) (eK (.int 1))) aN)))) (sRet (zak (zdf 40) (aC (eV 0) (aC (eV 1) (aC (eV 2) aN))))))
def g_cut:G:=zbe 3 3 c_cut
def rc_cut:R :=
 (rCall zap (aC (eV 2) (aC (e2 zbc (zak zaw (aC (eV 1) aN)) (eK (.int 1))) aN)))
def r_cut:GR:=zfd 3 3 rc_cut
def c_Shelf_cut:C :=
 (sSeq (sSet 2 (zak g_cut (aC (eFld "Shelf" "wood" (eV 0)) (aC (eFld "Shelf" "held" (eV 0)) (aC (eV 1) aN))))) (sSeq (sSet 3 (eMake "Shelf" (dflt 1 zas) (aC (eFld "Shelf" "wood" (eV 0)) aN))) (sSeq (zee "Shelf" "held" (eV 3) (e2s opIx (eV 2) (eK (.int 1)))) (sSeq (zds (zbh "Shelf" "hold" zam (eV 0) (aC (e2s opIx (eV 2) (eK (.int 0))) (aC (eTup (aC (eK (.str (Str.ofString "cut"))) (aC (eV 1) aN))) aN)))) (sRet (eV 3))))))
def g_Shelf_cut:G:=zbe 4 2 c_Shelf_cut
def rc_Shelf_cut:R :=
 (rCall r_cut (aC (eFld "Shelf" "wood" (eV 0)) (aC (eFld "Shelf" "held" (eV 0)) (aC (eV 1) aN))))
def zeq:GR:=zfd 4 2 rc_Shelf_cut
def c__law_bad:C :=
 (sSeq (sSet 4 (e2 zbc (eK (.int 1)) (e2 opMul (eV 2) (e2 opPow (eK (.int 10)) (eK (.int 30)))))) (sSeq (sSet 5 (e2s opIx (eLst (aC (e2 zdu (e1 negD (eK (.int 1))) (e2 zbb (eV 2) (eK (.int 5)))) (aC (e2 zbc (e2 zbc (eV 3) (eK (.int 1))) (e2 zbb (eV 2) (eK (.int 5)))) (aC (e2 zbc (eV 3) (eV 4)) (aC (e2 zdu (eK (.int 0)) (eV 4)) aN))))) (e2 zbb (e2 zdi (eV 2) (eK (.int 5))) (eK (.int 4))))) (sSeq (sSet 6 (e2s opIx (eLst (aC (eV 5) (aC (eV 3) aN))) (e2 zbb (e2 zdi (eV 2) (eK (.int 20))) (eK (.int 2))))) (sIf (bE (e2 opEq (eV 1) (eK (.int 0)))) (zds (zbh "Shelf" "put" zbt (eV 0) (aC (eV 5) (aC (eK (.str (Str.ofString "a"))) aN)))) (sIf (bE (e2 opEq (eV 1) (eK (.int 1)))) (zds (zbh "Shelf" "out" zci (eV 0) (aC (eV 6) aN))) (sIf (bE (e2 opEq (eV 1) (eK (.int 2)))) (zds (zbh "Shelf" "swap" zdc (eV 0) (aC (eV 6) (aC (eK (.str (Str.ofString "a"))) aN)))) (sIf (bE (e2 opEq (eV 1) (eK (.int 3)))) (zds (zbh "Shelf" "turned" zbv (eV 0) (aC (e2s opIx (eLst (aC (eK (.int 0)) (aC (eV 5) aN))) (e2 zbb (eV 2) (eK (.int 2)))) (aC (eV 5) aN)))) (sIf (bE (e2 opEq (eV 1) (eK (.int 4)))) (zds (zbh "Shelf" "turned" zbv (eV 0) (aC (e2 zbc (eK (.int 1)) (e2 zbb (eV 2) (eK (.int 3)))) (aC (e2 zbb (e2 zdi (eV 2) (eK (.int 3))) (e2 zbc (eK (.int 1)) (e2 zbb (eV 2) (eK (.int 3))))) aN)))) (sIf (bE (e2 opEq (eV 1) (eK (.int 5)))) (zds (zbh "Shelf" "turned" zbv (eV 0) (aC (e2 zbc (e2 zbc (eV 3) (eK (.int 1))) (e2 zbb (eV 2) (eK (.int 4)))) (aC (eV 3) aN)))) (zds (zbh "Shelf" "cut" g_Shelf_cut (eV 0) (aC (eV 5) aN))))))))))))
def g__law_bad:G:=zbe 7 4 c__law_bad
def rc__law_bad:R :=
 (rSeq (sSet 4 (e2 zbc (eK (.int 1)) (e2 opMul (eV 2) (e2 opPow (eK (.int 10)) (eK (.int 30)))))) (rSeq (sSet 5 (e2s opIx (eLst (aC (e2 zdu (e1 negD (eK (.int 1))) (e2 zbb (eV 2) (eK (.int 5)))) (aC (e2 zbc (e2 zbc (eV 3) (eK (.int 1))) (e2 zbb (eV 2) (eK (.int 5)))) (aC (e2 zbc (eV 3) (eV 4)) (aC (e2 zdu (eK (.int 0)) (eV 4)) aN))))) (e2 zbb (e2 zdi (eV 2) (eK (.int 5))) (eK (.int 4))))) (rSeq (sSet 6 (e2s opIx (eLst (aC (eV 5) (aC (eV 3) aN))) (e2 zbb (e2 zdi (eV 2) (eK (.int 20))) (eK (.int 2))))) (rIf (bE (e2 opEq (eV 1) (eK (.int 0)))) (rMeth "Shelf" "put" zcv (eV 0) (aC (eV 5) (aC (eK (.str (Str.ofString "a"))) aN))) (rIf (bE (e2 opEq (eV 1) (eK (.int 1)))) (rMeth "Shelf" "out" zep (eV 0) (aC (eV 6) aN)) (rIf (bE (e2 opEq (eV 1) (eK (.int 2)))) (rMeth "Shelf" "swap" zdx (eV 0) (aC (eV 6) (aC (eK (.str (Str.ofString "a"))) aN))) (rIf (bE (e2 opEq (eV 1) (eK (.int 3)))) (rMeth "Shelf" "turned" zcj (eV 0) (aC (e2s opIx (eLst (aC (eK (.int 0)) (aC (eV 5) aN))) (e2 zbb (eV 2) (eK (.int 2)))) (aC (eV 5) aN))) (rIf (bE (e2 opEq (eV 1) (eK (.int 4)))) (rMeth "Shelf" "turned" zcj (eV 0) (aC (e2 zbc (eK (.int 1)) (e2 zbb (eV 2) (eK (.int 3)))) (aC (e2 zbb (e2 zdi (eV 2) (eK (.int 3))) (e2 zbc (eK (.int 1)) (e2 zbb (eV 2) (eK (.int 3))))) aN))) (rIf (bE (e2 opEq (eV 1) (eK (.int 5)))) (rMeth "Shelf" "turned" zcj (eV 0) (aC (e2 zbc (e2 zbc (eV 3) (eK (.int 1))) (e2 zbb (eV 2) (eK (.int 4)))) (aC (eV 3) aN))) (rMeth "Shelf" "cut" zeq (eV 0) (aC (eV 5) aN)))))))))))
def zez:GR:=zfd 7 4 rc__law_bad
def c__law_refused:C :=
 (sSeq (sSet 4 (eK .non)) (sSeq (sTry (zds (zak g__law_bad (aC (eV 0) (aC (eV 1) (aC (eV 2) (aC (eV 3) aN)))))) (rCall zez (aC (eV 0) (aC (eV 1) (aC (eV 2) (aC (eV 3) aN))))) up.cat 5 (sSet 4 (eV 5))) (sRet (e2 opEq (zak zbq (aC (eV 4) aN)) (eK (.str (Str.ofString "place")))))))
def zdr:G:=frz (zbe 6 4 c__law_refused)
end
end Pg
set_option maxHeartbeats 4000000
namespace Pg
open PySem L2 F Mt
class Kd (k:Nat):Prop where
 ne:k=0
variable {k:Nat} [Kd k] {S:Sto}
def fnm (_:Nat):Str:=""
def addv (k:Nat):D:=if k=0 then .non else .fn (fnm k)
theorem add_ok {x y:D}{n m:Nat} (hx:Th k n x) (hy:Th k m y) (hn:n + m≤4000):∃g,ft (fnm k)=some g∧∀S,g [x,y] S=some (ad k x y,S):=by
 have h4:=Kd.ne (k:=k)
 subst h4
 exact hx.elim
end Pg
set_option maxHeartbeats 4000000
namespace Pg
open PySem L2 F Mt
variable {k:Nat} [Kd k] {d l r t:D}{ts lt rt:List D}{h lh rh:Nat}{S S1:Sto}{ev e:Ev}
theorem size_t (a b c d e f g h i:D) (S:Sto):zaw [.tup [a,b,c,d,e,f,g,h,i]] S=some (f,S):=rfl
theorem height_t (a b c d e f g h i:D) (S:Sto):zbi [.tup [a,b,c,d,e,f,g,h,i]] S=some (g,S):=rfl
theorem total_t (a b c d e f g h i:D) (S:Sto):zfa [.tup [a,b,c,d,e,f,g,h,i]] S=some (h,S):=rfl
theorem back_t (a b c d e f g h i:D) (S:Sto):g_back [.tup [a,b,c,d,e,f,g,h,i]] S=some (i,S):=rfl
theorem zbm (m:Mk k d ts h) (S:Sto):zaw [d] S=some (.int ts.length,S):=by
 cases m with
 | non=>rfl
 | node _ _ _ _ _=>rw [mkD,size_t,ord_len];simp;omega
theorem zby (m:Mk k d ts h) (S:Sto):zbi [d] S=some (.int h,S):=by
 cases m with
 | non=>rfl
 | node _ _ _ _ _=>rw [mkD,height_t]
theorem total_ok (m:Mk k d ts h) (S:Sto):zfa [d] S=some (sumD k ts,S):=by
 cases m with
 | non=>rfl
 | node _ _ _ _ _=>rw [mkD,total_t]
theorem back_ok (m:Mk k d ts h) (S:Sto):g_back [d] S=some (sumD k ts.reverse,S):=by
 cases m with
 | non=>rfl
 | node _ _ _ _ _=>rw [mkD,back_t]
theorem size_above_ok (ml:Mk k l lt lh) (mr:Mk k r rt rh) (S:Sto):zeu [l,r] S=some (.int (lt.length + 1 + rt.length:Nat),S):=by
 simp [zeu,zbe,c_size_above,sRet,e2,zak,aC,aN,eV,eK,zbc,zbm ml,zbm mr]
theorem height_above_ok (ml:Mk k l lt lh) (mr:Mk k r rt rh) (S:Sto):zdq [l,r] S=some (.int (max lh rh + 1:Nat),S):=by
 simp [zdq,zbe,c_height_above,sRet,e2,zak,aC,aN,eV,eK,zbc,eA,maxD,zby ml,zby mr]
 split <;> omega
theorem in_balance_ok (ml:Mk k l lt lh) (mr:Mk k r rt rh) (S:Sto):zcg [l,r] S=some (.bl (decide (lh≤rh + 1∧rh≤lh + 1)),S):=by
 simp [zcg,zbe,c_in_balance,sRet,e2,zak,aC,aN,eV,eK,zdu,opLe,F.opI,opIB,eA,absD,zby ml,zby mr]
 rw [Bool.eq_iff_iff]
 simp
 split <;> omega
theorem addV_e {a b:E}{x y:D}{n m:Nat} (hk:k≠0) (h0:ev[0]? = some (some (addv k))) (ha:a ev S=some (x,S)) (hb:b ev S=some (y,S)) (hx:Th k n x) (hy:Th k m y) (hn:n + m≤4000):eCallV ft (eV 0) (aC a (aC b aN)) ev S=some (ad k x y,S):=by
 obtain ⟨g,hg,hc⟩:=add_ok hx hy hn
 have hav:addv k=.fn (fnm k):=by simp [addv,hk]
 unfold eCallV
 rw [e_v h0]
 simp only [Option.bind_some,hav,hg,a_c ha (a_c hb a_n),hc]
theorem along_ok {gs:G}{w:E→E}{p q:Nat}{x y:D}{xt yt:List D} (hk:k≠0) (ht:Thing k t) (hn:xt.length + 1 + yt.length≤2000) (hx:∀z∈xt,Thing k z) (hy:∀z∈yt,Thing k z) (ex:x=.non∧xt=[]∨xt≠[]∧∃xs,x=.tup xs) (ey:y=.non∧yt=[]∨yt≠[]∧∃ys,y=.tup ys)
   (ev0:Ev) (S:Sto) (e0:ev0[0]? = some (some (addv k))) (et:ev0[2]? = some (some t)) (ep:ev0[p]? = some (some x)) (eq:ev0[q]? = some (some y)) (hl:ev0.length=5) (hp:p < 4) (hq:q < 4) (hx':∀ev:Ev,ev[p]? = some (some x)→w (eV p) ev S=some (sumD k xt,S)) (hy':∀ev:Ev,ev[q]? = some (some y)→w (eV q) ev S=some (sumD k yt,S)) :
   sSeq (sSet 4 (eV 2)) (sSeq (sIf (bE (e2 zer (eV p) (eK .non))) (sSet 4 (eCallV ft (eV 0) (aC (w (eV p)) (aC (eV 4) aN)))) sNil) (sSeq (sIf (bE (e2 zer (eV q) (eK .non))) (sSet 4 (eCallV ft (eV 0) (aC (eV 4) (aC (w (eV q)) aN)))) sNil) (sRet (eV 4)))) ev0 S=some (.rt (sumD k (xt++t::yt)),S):=by
 have tt:=ht.th hk
 have g4:∀(d:D) (i:Nat),i < 4→(ev0.set 4 (some d))[i]? = ev0[i]?:=fun d i hi=>List.getElem?_set_ne (by omega)
 have s4:∀(ev:Ev) (d:D),ev.length=5→(ev.set 4 (some d))[4]? = some (some d):=fun ev d h=>List.getElem?_set_self (by omega)
 have ss:∀(d e:D),(ev0.set 4 (some d)).set 4 (some e)=ev0.set 4 (some e):=fun d e=>by simp
 have step2:∀(acc:D) (n:Nat),Th k n acc→n + yt.length≤2000→∀{res:D},(yt=[]→res=acc)→(yt≠[]→res=ad k acc (sumD k yt)) →
     sSeq (sIf (bE (e2 zer (eV q) (eK .non))) (sSet 4 (eCallV ft (eV 0) (aC (eV 4) (aC (w (eV q)) aN)))) sNil) (sRet (eV 4)) (ev0.set 4 (some acc)) S=some (.rt res,S):=by
   intro acc n ha hb res r1 r2
   rcases ey with ⟨e1,e2'⟩ | ⟨e1,ys,e2'⟩
   · rw [r1 e2']
     exact zah (zaq (b_of (e_2 (e_v (by rw [g4 _ _ hq,eq])) e_k (by rw [e1];rfl)))) (zax (e_v (s4 _ _ hl)))
   · rw [r2 e1]
     refine zah (zbr (b_of (e_2 (e_v (by rw [g4 _ _ hq,eq])) e_k (by rw [e2'];rfl))) (zal (addV_e hk (by rw [g4 _ _ (by decide),e0]) (e_v (s4 _ _ hl)) (hy' _ (by rw [g4 _ _ hq,eq])) ha (th_sum hk e1 hy) (by omega)))) (zax (e_v ?_))
     rw [ss];exact s4 _ _ hl
 refine zah (zal (e_v et)) ?_
 rcases ex with ⟨e1,e2'⟩ | ⟨e1,xs,e2'⟩
 · subst e2'
   refine zah (zaq (b_of (e_2 (e_v (by rw [g4 _ _ hp,ep])) e_k (by rw [e1];rfl)))) (step2 t 1 tt (by simp at hn;omega) (fun z=>by rw [z,List.nil_append,sumD_one hk]) fun z=>?_)
   rw [List.nil_append,show t::yt=[t]++yt from rfl,sumD_append hk (by simp) z,sumD_one hk]
 · have t1:=th_sum hk e1 hx
   have e3:sumD k (xt++[t])=ad k (sumD k xt) t:=by rw [sumD_append hk e1 (by simp),sumD_one hk]
   refine zah (zbr (b_of (e_2 (e_v (by rw [g4 _ _ hp,ep])) e_k (by rw [e2'];rfl))) (zal (addV_e hk (by rw [g4 _ _ (by decide),e0]) (hx' _ (by rw [g4 _ _ hp,ep])) (e_v (s4 _ _ hl)) t1 tt (by omega)))) ?_
   rw [ss]
   exact step2 _ _ (t1.ad tt) (by omega) (fun z=>by rw [z,e3]) fun z=>by rw [show xt++t::yt=(xt++[t])++yt by simp,sumD_append hk (by simp) z,e3]
theorem nil_or {xs:List D} (m:Mk k d ts h):d=.non∧ts=[]∨ts≠[]∧∃xs,d=.tup xs:=by
 cases m with
 | non=>exact .inl ⟨rfl,rfl⟩
 | node _ _ _ _ _=>exact .inr ⟨by intro z;have:=congrArg List.length z;rw [ord_len] at this;simp at this,_,rfl⟩
theorem onward_ok (hk:k≠0) (ml:Mk k l lt lh) (mr:Mk k r rt rh) (ht:Thing k t) (hn:lt.length + 1 + rt.length≤2000) (S:Sto) :
   zfk [addv k,l,t,r] S=some (sumD k (lt++t::rt),S) :=
 b_rt rfl (along_ok (w:=fun x=>zak zfa (aC x aN)) (p:=1) (q:=3) (gs:=zfa) hk ht hn ml.things mr.things (nil_or (xs:=[]) ml) (nil_or (xs:=[]) mr) _ S rfl rfl rfl rfl rfl (by decide) (by decide) (fun ev h=>zaf (a_c (e_v h) a_n) (total_ok ml S)) (fun ev h=>zaf (a_c (e_v h) a_n) (total_ok mr S)))
theorem backward_ok (hk:k≠0) (ml:Mk k l lt lh) (mr:Mk k r rt rh) (ht:Thing k t) (hn:lt.length + 1 + rt.length≤2000) (S:Sto) :
   zel [addv k,l,t,r] S=some (sumD k (lt++t::rt).reverse,S):=by
 have rev:(lt++t::rt).reverse=rt.reverse++t::lt.reverse:=by simp
 have no:∀{d:D}{ts:List D},(d=.non∧ts=[]∨ts≠[]∧∃xs,d=.tup xs)→(d=.non∧ts.reverse=[]∨ts.reverse≠[]∧∃xs,d=.tup xs):=fun h=>by simpa using h
 rw [rev]
 exact b_rt rfl (along_ok (w:=fun x=>zak g_back (aC x aN)) (p:=3) (q:=1) (gs:=zfa) hk ht (by simp;omega) (fun z hz=>mr.things z (List.mem_reverse.mp hz)) (fun z hz=>ml.things z (List.mem_reverse.mp hz)) (no (nil_or (xs:=[]) mr)) (no (nil_or (xs:=[]) ml)) _ S rfl rfl rfl rfl rfl (by decide) (by decide) (fun ev h=>zaf (a_c (e_v h) a_n) (back_ok mr S)) (fun ev h=>zaf (a_c (e_v h) a_n) (back_ok ml S)))
theorem sums_above_ok (ml:Mk k l lt lh) (mr:Mk k r rt rh) (ht:Thing k t) (hn:lt.length + 1 + rt.length≤2000) (S:Sto) :
   zea [addv k,l,t,r] S=some (.tup [sumD k (lt++t::rt),sumD k (lt++t::rt).reverse],S):=by
 by_cases hk:k=0
 · subst hk
   simp [zea,zbe,c_sums_above,addv,sSeq,sIf,sRet,bE,e2,eV,eK,opIs,isNon,eTup,eA,aC,aN,two_le,sumD_zero]
 · have o:=onward_ok hk ml mr ht hn
   have b:=backward_ok hk ml mr ht hn
   have hav:addv k=.fn (fnm k):=by simp [addv,hk]
   rw [hav] at o b ⊢
   simp only [zea,zbe,c_sums_above]
   simp [sSeq,sIf,sRet,sNil,bE,e2,eV,eK,opIs,isNon,eTup,eA,aC,aN,two_le,zak,o,b]
def wd (ad:D) (n:Int):MO:=.ins "Wood" [("adding",ad),("nodes_made",.int n)]
theorem na:((Str.ofString "nodes_made") == (Str.ofString "adding"))=false:=by decide +kernel
theorem na':¬ (Str.ofString "adding"=Str.ofString "nodes_made"):=by decide +kernel
theorem na2:((Str.ofString "numbered") == (Str.ofString "adding"))=false:=by decide +kernel
theorem na3:((Str.ofString "numbered") == (Str.ofString "nodes_made"))=false:=by decide +kernel
theorem na4:((Str.ofString "node") == (Str.ofString "adding"))=false:=by decide +kernel
theorem na5:((Str.ofString "node") == (Str.ofString "nodes_made"))=false:=by decide +kernel
theorem na8:((Str.ofString "turned") == (Str.ofString "adding"))=false:=by decide +kernel
theorem na9:((Str.ofString "turned") == (Str.ofString "nodes_made"))=false:=by decide +kernel
theorem numbered_ok {i:Nat}{av:D}{n:Int}{xs:List D} (h:S[i]? = some (wd av n)) (hl:1 + xs.length≤sizeLine) :
   zce [.obj i,.tup xs] S=some (.tup (.int n::xs),S.set i (wd av (n + 1))):=by
 have h1:(1:Nat)≤sizeLine:=by decide
 unfold wd at h ⊢
 simp [zce,zbe,c_Wood_numbered,sSeq,sSet,eFld,eV,zfp,h,zee,e2,zbc,eK,sRet,eTup,aC,aN,eA,putD,List.lookup,na,na',hl,h1]
def wfs (av:D) (n:Int):List (Str×D):=[("adding",av),("nodes_made",.int n)]
theorem zcd {i:Nat}{av:D}{n:Int} (h:S[i]? = some (wd av n)):zfp (Str.ofString "Wood") S (.obj i)=some (i,wfs av n):=by
 simp [zfp,h,wd,wfs]
theorem zdv (av:D) (n:Int):(wfs av n).lookup (Str.ofString "node")=none:=by simp [wfs,List.lookup,na4,na5]
theorem wl_turned (av:D) (n:Int):(wfs av n).lookup (Str.ofString "turned")=none:=by simp [wfs,List.lookup,na8,na9]
theorem wl_adding (av:D) (n:Int):(wfs av n).lookup (Str.ofString "adding")=some av:=by simp [wfs,List.lookup]
theorem wl_numbered (av:D) (n:Int):(wfs av n).lookup (Str.ofString "numbered")=none:=by simp [wfs,List.lookup,na2,na3]
theorem zdb {f:E} (h:f ev S=some (d,S1)):zds f ev S=some (.nx ev,S1):=by simp [zds,h]
theorem b_nx {N n:Nat}{c:C}{ds:List D}{S S':Sto}{e:Ev} (hl:ds.length=n) (h:c (ds.map some++List.replicate (N - ds.length) none) S=some (.nx e,S')):zbe N n c ds S=some (.non,S'):=by
 unfold zbe;rw [if_pos hl,h]
theorem gt_no {x y:Int} (h:x≤y):opGt (.int x) (.int y)=some (.bl false):=by
 show some (D.bl (decide (y < x)))=_
 rw [decide_eq_false (by omega)]
theorem room_ok {m:Nat} (h:m≤2000) (S:Sto):zbk [.int m] S=some (.non,S):=b_nx rfl (zaq (b_of (e_2 (e_v rfl) e_k (gt_no (by omega)))))
theorem node_ok {i:Nat}{n:Int} (h:S[i]? = some (wd (addv k) n)) (ml:Mk k l lt lh) (mr:Mk k r rt rh) (ht:Thing k t) (h1:lh≤rh + 1) (h2:rh≤lh + 1) (hn:lt.length + 1 + rt.length≤2000) :
   zao [.obj i,l,t,r] S=some (mkD n false l t r (lt.length + 1 + rt.length:Nat) (max lh rh + 1:Nat) (sumD k (lt++t::rt)) (sumD k (lt++t::rt).reverse),S.set i (wd (addv k) (n + 1))):=by
 have hz:sizeLine=16777216:=sizeLine_eq
 have q:=size_above_ok ml mr S
 have b:=in_balance_ok ml mr S
 have hh:=height_above_ok ml mr S
 have sa:=sums_above_ok ml mr ht hn S
 rw [decide_eq_true (show lh≤rh + 1∧rh≤lh + 1 from ⟨h1,h2⟩)] at b
 exact b_rt rfl (zah (zal (zaf (a_c (e_v rfl) (a_c (e_v rfl) a_n)) q)) (zah (zdb (zaf (a_c (e_v rfl) a_n) (room_ok hn S))) (zah (zaq (b_nT (b_of (zaf (a_c (e_v rfl) (a_c (e_v rfl) a_n)) b)))) (zah (zal (zey (a_c (e_v rfl) (a_c (zaf (a_c (e_v rfl) (a_c (e_v rfl) a_n)) hh) a_n)) (by simp))) (zah (zal (zaf (a_c (e_fld (e_v rfl) (zcd h) (wl_adding _ _)) (a_c (e_v rfl) (a_c (e_v rfl) (a_c (e_v rfl) a_n)))) sa)) (zax (zcz (e_v rfl) (zcd h) (wl_numbered _ _) (a_c (e_2 (e_2 (zey (a_c e_k (a_c (e_v rfl) (a_c (e_v rfl) (a_c (e_v rfl) a_n)))) (by simp)) (e_v rfl) (add_tup (by simp))) (e_v rfl) (add_tup (by simp))) a_n) (numbered_ok h (by simp;omega)))))))))
theorem node_mk {n:Int} (ml:Mk k l lt lh) (mr:Mk k r rt rh) (ht:Thing k t) (h1:lh≤rh + 1) (h2:rh≤lh + 1) :
   Mk k (mkD n false l t r (lt.length + 1 + rt.length:Nat) (max lh rh + 1:Nat) (sumD k (lt++t::rt)) (sumD k (lt++t::rt).reverse)) (lt++t::rt) (max lh rh + 1):=by
 have:=Mk.node (num:=n) (a:=false) ml mr ht h1 h2
 simpa [ord] using this
theorem turned_non {i:Nat}:zbn [.obj i,.non] S=some (.non,S):=rfl
theorem turned_t {i:Nat}{n num:Int}{av:D}{a:Bool}{sz ht:Int}{to ba:D} (h:S[i]? = some (wd av n)) :
   zbn [.obj i,mkD num a l t r sz ht to ba] S=some (mkD n (!a) l t r sz ht ba to,S.set i (wd av (n + 1))):=by
 have hz:sizeLine=16777216:=sizeLine_eq
 unfold mkD
 exact b_rt rfl (zah (zaq (b_of (e_2 (e_v rfl) e_k rfl))) (zah (zal (zey (a_c (e_2s (e_v rfl) e_k rfl) (a_c (e_2s (e_v rfl) e_k rfl) (a_c (e_2s (e_v rfl) e_k rfl) a_n))) (by simp))) (zax (zcz (e_v rfl) (zcd h) (wl_numbered _ _) (a_c (e_2 (e_2 (zey (a_c (e_not (e_2s (e_v rfl) e_k rfl)) a_n) (by simp)) (e_v rfl) (add_tup (by simp))) (zey (a_c (zaf (a_c (e_v rfl) a_n) (size_t _ _ _ _ _ _ _ _ _ _)) (a_c (zaf (a_c (e_v rfl) a_n) (height_t _ _ _ _ _ _ _ _ _ _)) (a_c (zaf (a_c (e_v rfl) a_n) (back_t _ _ _ _ _ _ _ _ _ _)) (a_c (zaf (a_c (e_v rfl) a_n) (total_t _ _ _ _ _ _ _ _ _ _)) a_n)))) (by simp)) (add_tup (by simp))) a_n) (numbered_ok h (by simp;omega))))))
theorem turned_mk {num n:Int}{a:Bool}{sz ht:Int}{to ba:D} (m:Mk k (mkD num a l t r sz ht to ba) ts h):Mk k (mkD n (!a) l t r sz ht ba to) ts.reverse h:=by
 generalize hd:mkD num a l t r sz ht to ba=d at m
 cases m with
 | non=>cases hd
 | @node num' a' l' t' r' lt rt lh rh ml mr ht' h1 h2 =>
   unfold mkD at hd
   injection hd with hd
   simp only [List.cons.injEq,D.int.injEq,D.bl.injEq,and_true] at hd
   obtain ⟨rfl,rfl,rfl,rfl,rfl,rfl,rfl,rfl,rfl⟩:=hd
   have:=Mk.node (num:=n) (a:=!a) ml mr ht' h1 h2
   have e:ord (!a) (lt++t::rt)=(ord a (lt++t::rt)).reverse:=by
     cases a <;> simp [ord]
   rw [e,List.reverse_reverse] at this
   exact this
theorem wood_init (S:Sto) (av:D):zcx [.obj S.length,av] (S++[.ins (Str.ofString "Wood") []])=some (.non,S++[wd av 0]):=by
 have q1:(S++[MO.ins (Str.ofString "Wood") []])[S.length]? = some (MO.ins (Str.ofString "Wood") []):=by simp
 have q2:∀a b:MO,(S++[a]).set S.length b=S++[b]:=by intro a b;simp
 have q3:∀a:MO,(S++[a])[S.length]? = some a:=by intro a;simp
 simp [zcx,zbe,c_Wood___init__,sSeq,zee,eV,eK,zfp,putD,na',wd,q1,q2,q3]
theorem wood_e0:eMake (Str.ofString "Wood") (dflt 1 zcx) aN ev S=some (.obj S.length,S++[wd .non 0]):=by
 have:=wood_init S .non
 simp [eMake,aN,dflt,this]
inductive Tnd (n:Int):D→D→Int→Prop where
 | non:Tnd n .non .non n
 | node {num:Int}{a:Bool}{l t r:D}{sz ht:Int}{to ba:D}:Tnd n (mkD num a l t r sz ht to ba) (mkD n (!a) l t r sz ht ba to) (n + 1)
structure At (S S':Sto) (i:Nat) (av:D) (n n':Int):Prop where
 at_:S'[i]? = some (wd av n')
 le:n≤n'
 ne:∀j,j≠i→S'[j]? = S[j]?
 len:S'.length=S.length
theorem At.refl {i:Nat}{av:D}{n:Int} (h:S[i]? = some (wd av n)):At S S i av n n:=⟨h,Int.le_refl _,fun _ _=>rfl,rfl⟩
theorem At.set {i:Nat}{av:D}{n n':Int} (h:S[i]? = some (wd av n)) (hn:n≤n'):At S (S.set i (wd av n')) i av n n':=⟨set_at h,hn,fun j hj=>set_ne (Ne.symm hj) _,by simp⟩
theorem At.trans {S2:Sto}{i:Nat}{av:D}{n n' n'':Int} (a:At S S1 i av n n') (b:At S1 S2 i av n' n''):At S S2 i av n n'':=⟨b.at_,Int.le_trans a.le b.le,fun j hj=>(b.ne j hj).trans (a.ne j hj),b.len.trans a.len⟩
theorem turned_any {i:Nat}{av:D}{n:Int} (m:Mk k d ts h) (hw:S[i]? = some (wd av n)):∃d' n' S',zbn [.obj i,d] S=some (d',S')∧Mk k d' ts.reverse h∧Tnd n d d' n'∧At S S' i av n n':=by
 have m0:=m
 cases m with
 | non=>exact ⟨.non,n,S,turned_non,.non,.non,At.refl hw⟩
 | node ml mr ht h1 h2=>exact ⟨_,_,_,turned_t hw,turned_mk m0,.node,At.set hw (by omega)⟩
theorem parts_ok {i:Nat}{n num:Int}{av:D}{a:Bool}{sz ht:Int}{to ba:D} (m:Mk k (mkD num a l t r sz ht to ba) ts h) (hw:S[i]? = some (wd av n)) :
   ∃x y n' S' xt yt xh yh,zch [.obj i,mkD num a l t r sz ht to ba] S=some (.tup [x,t,y],S')∧At S S' i av n n'∧Mk k x xt xh∧Mk k y yt yh∧ts=xt++t::yt∧h=max xh yh + 1∧xh≤yh + 1∧yh≤xh + 1∧Thing k t ∧
     ((a=false∧x=l∧y=r∧n'=n∧S'=S)∨(a=true∧∃n1,Tnd n r x n1∧Tnd n1 l y n')):=by
 have hs:(3:Nat)≤16777216:=by decide
 generalize hd:mkD num a l t r sz ht to ba=d at m
 cases m with
 | non=>cases hd
 | @node num' a' l' t' r' lt rt lh rh ml mr ht' h1 h2 =>
   unfold mkD at hd
   injection hd with hd
   simp only [List.cons.injEq,D.int.injEq,D.bl.injEq,and_true] at hd
   obtain ⟨rfl,rfl,rfl,rfl,rfl,rfl,rfl,rfl,rfl⟩:=hd
   generalize ((lt.length + 1 + rt.length:Nat):Int)=sz
   generalize ((max lh rh + 1:Nat):Int)=hh
   generalize sumD k (ord a (lt++t::rt))=to
   generalize sumD k (ord a (lt++t::rt)).reverse=ba
   cases a
   · refine ⟨l,r,n,S,lt,rt,lh,rh,?_,At.refl hw,ml,mr,rfl,rfl,h1,h2,ht',.inl ⟨rfl,rfl,rfl,rfl,rfl⟩⟩
     rfl
   · obtain ⟨x,n1,S1,c1,mx,t1,w1⟩:=turned_any mr hw
     obtain ⟨y,n2,S2,c2,my,t2,w2⟩:=turned_any ml w1.at_
     refine ⟨x,y,n2,S2,rt.reverse,lt.reverse,rh,lh,?_,w1.trans w2,mx,my,by simp [ord],by rw [Nat.max_comm],h2,h1,ht',.inr ⟨rfl,n1,t1,t2⟩⟩
     have f0:bNot (bE (e2s opIx (eV 1) (eK (.int 1)))) [some (.obj i),some (.tup [.int num,.bl true,l,t,r,.int sz,.int hh,to,ba]),none,none] S=some (false,S):=rfl
     have f1:sSet 2 (zbh "Wood" "turned" zbn (eV 0) (aC (e2s opIx (eV 1) (eK (.int 4))) aN)) [some (.obj i),some (.tup [.int num,.bl true,l,t,r,.int sz,.int hh,to,ba]),none,none] S=some (.nx [some (.obj i),some (.tup [.int num,.bl true,l,t,r,.int sz,.int hh,to,ba]),some x,none],S1) :=
       zal (zcz (e_v rfl) (zcd hw) (wl_turned _ _) (a_c (e_2s (e_v rfl) e_k rfl) a_n) c1)
     have f2:sSet 3 (zbh "Wood" "turned" zbn (eV 0) (aC (e2s opIx (eV 1) (eK (.int 2))) aN)) [some (.obj i),some (.tup [.int num,.bl true,l,t,r,.int sz,.int hh,to,ba]),some x,none] S1=some (.nx [some (.obj i),some (.tup [.int num,.bl true,l,t,r,.int sz,.int hh,to,ba]),some x,some y],S2) :=
       zal (zcz (e_v rfl) (zcd w1.at_) (wl_turned _ _) (a_c (e_2s (e_v rfl) e_k rfl) a_n) c2)
     have f3:sRet (eTup (aC (eV 2) (aC (e2s opIx (eV 1) (eK (.int 3))) (aC (eV 3) aN)))) [some (.obj i),some (.tup [.int num,.bl true,l,t,r,.int sz,.int hh,to,ba]),some x,some y] S2=some (.rt (.tup [x,t,y]),S2):=by
       unfold sRet
       rw [zey (a_c (e_v rfl) (a_c (e_2s (e_v rfl) e_k rfl) (a_c (e_v rfl) a_n))) (by simp)]
       rfl
     simp only [zch,zbe,c_parts,mkD]
     simp only [List.length_cons,List.length_nil,Nat.reduceAdd,if_true,List.map_cons,List.map_nil,Nat.reduceSub,List.replicate,List.cons_append,List.nil_append]
     simp only [sSeq,sIf,f0,Option.bind_some,Bool.false_eq_true,if_false,sNil,f1,f2,f3]
end Pg
set_option maxHeartbeats 4000000
namespace Pg
open PySem L2 F Mt
variable {k:Nat} [Kd k] {d l r t x y:D}{ts lt rt:List D}{h lh rh i:Nat}{n:Int}{S S0 S1:Sto}{ev e:Ev}{P Q:D→Prop}{a b new:List D}
def num:D→Int
 | .tup (.int n::_)=>n
 | _=>0
inductive All (P:D→Prop):D→Prop where
 | non:All P .non
 | node {m:Int}{a:Bool}{l t r:D}{sz ht:Int}{to ba:D}:P (mkD m a l t r sz ht to ba)→All P l→All P r→All P (mkD m a l t r sz ht to ba)
theorem All.inv {m:Int}{a:Bool}{sz ht:Int}{to ba:D} (h:All P (mkD m a l t r sz ht to ba)):All P l∧All P r:=by
 generalize e:mkD m a l t r sz ht to ba=d at h
 cases h with
 | non=>cases e
 | node _ b c =>
   unfold mkD at e
   injection e with e
   simp only [List.cons.injEq,and_true] at e
   obtain ⟨_,_,rfl,_,rfl,_⟩:=e
   exact ⟨b,c⟩
theorem All.mono (h:All P d) (f:∀v,P v→Q v):All Q d:=by
 induction h with
 | non=>exact .non
 | node a _ _ b c=>exact .node (f _ a) b c
def Ac (P:D→Prop) (n:Int) (new:List D) (v:D):Prop:=P v∨∃j:Nat,new[j]? = some v∧num v=n + j
theorem Ac.app {v:D} (h:Ac P n a v):Ac P n (a++b) v:=h.imp id fun ⟨j,h1,h2⟩=>⟨j,by rw [List.getElem?_append_left (List.getElem?_eq_some_iff.mp h1).1,h1],h2⟩
theorem Ac.two {v:D} (h:Ac (Ac P n a) (n + a.length) b v):Ac P n (a++b) v:=by
 rcases h with h | ⟨j,h1,h2⟩
 · exact h.app
 · exact .inr ⟨a.length + j,by rw [List.getElem?_append_right (Nat.le_add_right _ _),Nat.add_sub_cancel_left,h1],by omega⟩
theorem All.old (h:All P d):All (Ac P n a) d:=h.mono fun _=>.inl
theorem All.app (h:All (Ac P n a) d):All (Ac P n (a++b)) d:=h.mono fun _=>Ac.app
theorem All.two (h:All (Ac (Ac P n a) (n + a.length) b) d):All (Ac P n (a++b)) d:=h.mono fun _=>Ac.two
abbrev Wt (k i:Nat) (S:Sto) (n:Int) (new:List D) (S':Sto):Prop:=At S S' i (addv k) n (n + new.length)
theorem Wt.nil (hw:S[i]? = some (wd (addv k) n)):Wt k i S n [] S:=by
 have:=At.refl hw
 unfold Wt;rw [show n + (([]:List D).length:Int)=n from Int.add_zero n];exact this
theorem Wt.two (w:Wt k i S0 n a S) (w':Wt k i S (n + a.length) b S1):Wt k i S0 n (a++b) S1:=by
 have:=At.trans w w'
 have e:n + (a.length:Int) + b.length=n + ((a++b).length:Nat):=by rw [List.length_append];omega
 unfold Wt;rw [← e];exact this
structure Top (a b h:Nat):Prop where
 l:a < h
 r:b < h
 e:h=a + 1∨h=b + 1
theorem top_max (a b:Nat):Top a b (max a b + 1):=⟨by omega,by omega,by omega⟩
structure Res (k i:Nat) (S:Sto) (n:Int) (P:D→Prop) (ts:List D) (d:D) (h:Nat) (new:List D) (S':Sto):Prop where
 mm:Mk k d ts h
 wt:Wt k i S n new S'
 all:All (Ac P n new) d
theorem Res.after (w:Wt k i S0 n a S) (r:Res k i S (n + a.length) (Ac P n a) ts d h new S1):Res k i S0 n P ts d h (a++new) S1:=⟨r.mm,w.two r.wt,r.all.two⟩
theorem zfj (hw:S[i]? = some (wd (addv k) n)) (ml:Mk k l lt lh) (mr:Mk k r rt rh) (ht:Thing k t) (h1:lh≤rh + 1) (h2:rh≤lh + 1) (hn:lt.length + 1 + rt.length≤2000) (al:All P l) (ar:All P r) :
   ∃d S' h,zao [.obj i,l,t,r] S=some (d,S')∧Res k i S n P (lt++t::rt) d h [d] S'∧Top lh rh h :=
 ⟨_,_,_,node_ok hw ml mr ht h1 h2 hn,⟨node_mk ml mr ht h1 h2,At.set hw (by omega),.node (.inr ⟨0,rfl,(Int.add_zero n).symm⟩) al.old ar.old⟩,top_max _ _⟩
theorem Tnd.ac {d':D}{n1:Int} (t:Tnd n d d' n1) (a:All P d):∃new:List D,n1=n + new.length∧All (Ac P n new) d'∧new.length≤1:=by
 cases t with
 | non=>exact ⟨[],(Int.add_zero n).symm,.non,by simp⟩
 | node=>exact ⟨[_],rfl,.node (.inr ⟨0,rfl,(Int.add_zero n).symm⟩) a.inv.1.old a.inv.2.old,by simp⟩
theorem turned_r (m:Mk k d ts h) (hw:S[i]? = some (wd (addv k) n)) (al:All P d):∃d' new S',zbn [.obj i,d] S=some (d',S')∧Res k i S n P ts.reverse d' h new S'∧new.length≤1:=by
 obtain ⟨d',n',S',c,m',t,w⟩:=turned_any m hw
 obtain ⟨new,rfl,al',hl⟩:=t.ac al
 exact ⟨d',new,S',c,⟨m',w,al'⟩,hl⟩
structure Pts (k i:Nat) (S:Sto) (n:Int) (P:D→Prop) (ts:List D) (h:Nat) (x t y:D) (xt yt:List D) (xh yh:Nat) (new:List D) (S':Sto):Prop where
 wt:Wt k i S n new S'
 mx:Mk k x xt xh
 my:Mk k y yt yh
 ht:Thing k t
 hts:ts=xt++t::yt
 hh:Top xh yh h
 h1:xh≤yh + 1
 h2:yh≤xh + 1
 ax:All (Ac P n new) x
 ay:All (Ac P n new) y
 few:new.length≤2
theorem parts_r (m:Mk k d ts h) (hh:0 < h) (hw:S[i]? = some (wd (addv k) n)) (al:All P d) :
   ∃x t y xt yt xh yh new S',zch [.obj i,d] S=some (.tup [x,t,y],S')∧Pts k i S n P ts h x t y xt yt xh yh new S':=by
 have m0:=m
 cases m with
 | non=>omega
 | @node num a l t r lt rt lh rh ml mr ht h1 h2 =>
   obtain ⟨x,y,n',S',xt,yt,xh,yh,c,w,mx,my,e1,e2,q1,q2,q3,q⟩:=parts_ok m0 hw
   rcases q with ⟨_,rfl,rfl,rfl,rfl⟩ | ⟨_,n1,t1,t2⟩
   · exact ⟨x,t,y,xt,yt,xh,yh,[],_,c,⟨Wt.nil hw,mx,my,q3,e1,e2 ▸ top_max _ _,q1,q2,al.inv.1.old,al.inv.2.old,by simp⟩⟩
   · obtain ⟨a1,rfl,b1,c1⟩:=t1.ac al.inv.2
     obtain ⟨a2,rfl,b2,c2⟩:=t2.ac (al.inv.1.old (n:=n) (a:=a1))
     refine ⟨x,t,y,xt,yt,xh,yh,a1++a2,S',c,⟨?_,mx,my,q3,e1,e2 ▸ top_max _ _,q1,q2,b1.app,b2.two,by rw [List.length_append];omega⟩⟩
     have e:n + (a1.length:Int) + a2.length=n + ((a1++a2).length:Nat):=by rw [List.length_append];omega
     unfold Wt;rw [← e];exact w
theorem ge_e (x y:Nat):opGe (.int x) (.int y)=some (.bl (decide (y≤x))):=congrArg (fun b=>some (D.bl b)) (decide_eq_decide.mpr Int.ofNat_le)
theorem gt_e (x y:Nat):opGt (.int x) (.int y)=some (.bl (decide (y < x))):=congrArg (fun b=>some (D.bl b)) (decide_eq_decide.mpr Int.ofNat_lt)
theorem len3 (a b c:List D):(a++t::b).length + 1 + c.length=a.length + 1 + (b++x::c).length:=by simp only [List.length_append,List.length_cons];omega
theorem app3 (a b c:List D):a++t::(b++x::c)=a++t::b++x::c:=by simp
theorem len_l {a b:List D}{m:Nat} (h:(a++t::b).length + 1 + m≤2000):b.length + 1 + m≤2000:=by simp only [List.length_append,List.length_cons] at h;omega
theorem len_r {a b:List D}{m:Nat} (h:m + 1 + (a++t::b).length≤2000):m + 1 + a.length≤2000:=by simp only [List.length_append,List.length_cons] at h;omega
theorem few2 {a:List D} (h:a.length≤2):(a++[x]++[y]).length≤7:=by simp only [List.length_append,List.length_cons,List.length_nil];omega
theorem few5 {a b:List D} (h:a.length≤2) (h':b.length≤2):(a++b++[x]++[y]++[t]).length≤7:=by simp only [List.length_append,List.length_cons,List.length_nil];omega
theorem few9 {a b c:List D}{f:Nat} (h:a.length≤2) (h':b.length≤9 * f + 1) (h3:c.length≤7):(a++b++c).length≤9 * (f + 1) + 1:=by simp only [List.length_append];omega
theorem len_a {a b c:List D}{m:Nat} (h:(a++t::(b++x::c)).length + 1 + m≤2000):a.length + 1 + b.length≤2000:=by simp only [List.length_append,List.length_cons] at h;omega
theorem len_b {a b c:List D}{m:Nat} (h:(a++t::(b++x::c)).length + 1 + m≤2000):c.length + 1 + m≤2000:=by simp only [List.length_append,List.length_cons] at h;omega
theorem len_c {a b c e:List D} (h:(a++t::(b++x::c)).length + 1 + e.length≤2000):(a++t::b).length + 1 + (c++y::e).length≤2000:=by simp only [List.length_append,List.length_cons] at h ⊢;omega
theorem len_d {a b c:List D}{m:Nat} (h:m + 1 + (a++t::b++x::c).length≤2000):m + 1 + a.length≤2000:=by simp only [List.length_append,List.length_cons] at h;omega
theorem len_e {a b c:List D}{m:Nat} (h:m + 1 + (a++t::b++x::c).length≤2000):b.length + 1 + c.length≤2000:=by simp only [List.length_append,List.length_cons] at h;omega
theorem len_f {a b c e:List D} (h:e.length + 1 + (a++t::b++x::c).length≤2000):(e++y::a).length + 1 + (b++x::c).length≤2000:=by simp only [List.length_append,List.length_cons] at h ⊢;omega
theorem app5 (a b c e:List D):a++t::b++x::(c++y::e)=a++t::(b++x::c)++y::e:=by simp
theorem app6 (a b c e:List D):a++t::b++x::(c++y::e)=a++t::(b++x::c++y::e):=by simp
theorem up1 {xh yh rh lh:Nat} (hh:lh=rh + 2) (p:Top xh yh lh) (q1:xh≤yh + 1) (q2:yh≤xh + 1) (hg:yh≤xh):yh≤rh + 1∧rh≤yh + 1∧∀g,Top yh rh g→(xh≤g + 1∧g≤xh + 1∧∀z,Top xh g z→lh≤z∧z≤lh + 1):=by
 obtain ⟨p1,p2,p3⟩:=p
 refine ⟨by omega,by omega,fun g ⟨g1,g2,g3⟩=>⟨by omega,by omega,fun z ⟨z1,z2,z3⟩=>⟨by omega,by omega⟩⟩⟩
theorem up2 {xh yh rh lh xh' yh':Nat} (hh:lh=rh + 2) (p:Top xh yh lh) (q1:xh≤yh + 1) (q2:yh≤xh + 1) (hg:¬ yh≤xh) (p':Top xh' yh' yh) (q3:xh'≤yh' + 1) (q4:yh'≤xh' + 1) :
   (xh≤xh' + 1∧xh'≤xh + 1)∧(yh'≤rh + 1∧rh≤yh' + 1)∧∀g g',Top xh xh' g→Top yh' rh g'→(g≤g' + 1∧g'≤g + 1∧∀z,Top g g' z→lh≤z∧z≤lh + 1):=by
 obtain ⟨p1,p2,p3⟩:=p
 obtain ⟨p4,p5,p6⟩:=p'
 have e1:xh=rh:=by omega
 have e2:yh=rh + 1:=by omega
 subst e1 e2
 refine ⟨⟨by omega,by omega⟩,⟨by omega,by omega⟩,fun g g' ⟨g1,g2,g3⟩ ⟨g4,g5,g6⟩=>?_⟩
 have e3:g=xh + 1:=by omega
 have e4:g'=xh + 1:=by omega
 subst e3 e4
 exact ⟨by omega,by omega,fun z ⟨z1,z2,z3⟩=>⟨by omega,by omega⟩⟩
theorem Top.sym {a b h:Nat} (p:Top a b h):Top b a h:=⟨p.r,p.l,p.e.symm⟩
theorem lifted_left_ok (hw:S[i]? = some (wd (addv k) n)) (ml:Mk k l lt lh) (mr:Mk k r rt rh) (ht:Thing k t) (hh:lh=rh + 2) (hn:lt.length + 1 + rt.length≤2000) (al:All P l) (ar:All P r) :
   ∃d h new S',zew [.obj i,l,t,r] S=some (d,S')∧Res k i S n P (lt++t::rt) d h new S'∧(lh≤h∧h≤lh + 1)∧new.length≤7:=by
 obtain ⟨x,u,y,xt,yt,xh,yh,w1,S1,c1,p⟩:=parts_r ml (by omega) hw al
 have e1:=p.hts
 subst e1
 have e2:=p.hh
 have f1:=p.few
 by_cases hg:yh≤xh
 · obtain ⟨k1,k2,k3⟩:=up1 hh p.hh p.h1 p.h2 hg
   have hge:opGe (.int xh) (.int yh)=some (.bl true):=by rw [ge_e,decide_eq_true hg]
   clear hg
   obtain ⟨d1,S2,g1,c2,r2,t2⟩:=zfj p.wt.at_ p.my mr ht k1 k2 (len_l hn) p.ay ar.old
   have r2:=r2.after p.wt
   obtain ⟨k4,k5,k6⟩:=k3 _ t2
   obtain ⟨d2,S3,g2,c3,r3,t3⟩:=zfj r2.wt.at_ p.mx r2.mm p.ht k4 k5 (by rw [← len3];exact hn) p.ax.app r2.all
   have r3:=r3.after r2.wt
   exact ⟨d2,_,_,S3,b_rt rfl (zah (zal (zaf (a_c (e_v rfl) (a_c (e_v rfl) a_n)) c1)) (zbz (zbr (b_of (e_2 (zaf (a_c (e_2s (e_v rfl) e_k rfl) a_n) (zby p.mx S1)) (zaf (a_c (e_2s (e_v rfl) e_k rfl) a_n) (zby p.my S1)) hge)) (zax (zcz (e_v rfl) (zcd p.wt.at_) (zdv _ _) (a_c (e_2s (e_v rfl) e_k rfl) (a_c (e_2s (e_v rfl) e_k rfl) (a_c (zcz (e_v rfl) (zcd p.wt.at_) (zdv _ _) (a_c (e_2s (e_v rfl) e_k rfl) (a_c (e_v rfl) (a_c (e_v rfl) a_n))) c2) a_n))) c3))))),app3 xt yt rt ▸ r3,k6 _ t3,few2 f1⟩
 · have hge:opGe (.int xh) (.int yh)=some (.bl false):=by rw [ge_e,decide_eq_false hg]
   obtain ⟨x',v,y',xt',yt',xh',yh',w2,S2,c2,p2⟩:=parts_r p.my (by omega) p.wt.at_ p.ay
   have e3:=p2.hts
   subst e3
   obtain ⟨⟨k1,k2⟩,⟨k3,k4⟩,k5⟩:=up2 hh p.hh p.h1 p.h2 hg p2.hh p2.h1 p2.h2
   have f2:=p2.few
   clear hg e2
   have wt2:=p.wt.two p2.wt
   obtain ⟨d1,S3,g1,c3,r3,t3⟩:=zfj wt2.at_ p.mx p2.mx p.ht k1 k2 (len_a hn) p.ax.app p2.ax.two
   have r3:=r3.after wt2
   obtain ⟨d2,S4,g2,c4,r4,t4⟩:=zfj r3.wt.at_ p2.my mr ht k3 k4 (len_b hn) p2.ay.two.app ar.old
   have r4:=r4.after r3.wt
   obtain ⟨k6,k7,k8⟩:=k5 _ _ t3 t4
   obtain ⟨d3,S5,g3,c5,r5,t5⟩:=zfj r4.wt.at_ r3.mm r4.mm p2.ht k6 k7 (len_c hn) r3.all.app r4.all
   have r5:=r5.after r4.wt
   exact ⟨d3,_,_,S5,b_rt rfl (zah (zal (zaf (a_c (e_v rfl) (a_c (e_v rfl) a_n)) c1)) (zah (zaq (b_of (e_2 (zaf (a_c (e_2s (e_v rfl) e_k rfl) a_n) (zby p.mx S1)) (zaf (a_c (e_2s (e_v rfl) e_k rfl) a_n) (zby p.my S1)) hge))) (zah (zal (zaf (a_c (e_v rfl) (a_c (e_2s (e_v rfl) e_k rfl) a_n)) c2)) (zah (zal (zcz (e_v rfl) (zcd wt2.at_) (zdv _ _) (a_c (e_2s (e_v rfl) e_k rfl) (a_c (e_2s (e_v rfl) e_k rfl) (a_c (e_2s (e_v rfl) e_k rfl) a_n))) c3)) (zah (zal (zcz (e_v rfl) (zcd r3.wt.at_) (zdv _ _) (a_c (e_2s (e_v rfl) e_k rfl) (a_c (e_v rfl) (a_c (e_v rfl) a_n))) c4)) (zax (zcz (e_v rfl) (zcd r4.wt.at_) (zdv _ _) (a_c (e_v rfl) (a_c (e_2s (e_v rfl) e_k rfl) (a_c (e_v rfl) a_n))) c5))))))),app5 xt xt' yt' rt ▸ r5,k8 _ t5,few5 f1 f2⟩
theorem lifted_right_ok (hw:S[i]? = some (wd (addv k) n)) (ml:Mk k l lt lh) (mr:Mk k r rt rh) (ht:Thing k t) (hh:rh=lh + 2) (hn:lt.length + 1 + rt.length≤2000) (al:All P l) (ar:All P r) :
   ∃d h new S',zek [.obj i,l,t,r] S=some (d,S')∧Res k i S n P (lt++t::rt) d h new S'∧(rh≤h∧h≤rh + 1)∧new.length≤7:=by
 obtain ⟨x,u,y,xt,yt,xh,yh,w1,S1,c1,p⟩:=parts_r mr (by omega) hw ar
 have e1:=p.hts
 subst e1
 have e2:=p.hh
 have f1:=p.few
 by_cases hg:xh≤yh
 · obtain ⟨k1,k2,k3⟩:=up1 hh p.hh.sym p.h2 p.h1 hg
   have hge:opGe (.int yh) (.int xh)=some (.bl true):=by rw [ge_e,decide_eq_true hg]
   clear hg
   obtain ⟨d1,S2,g1,c2,r2,t2⟩:=zfj p.wt.at_ ml p.mx ht k2 k1 (len_r hn) al.old p.ax
   have r2:=r2.after p.wt
   obtain ⟨k4,k5,k6⟩:=k3 _ t2.sym
   obtain ⟨d2,S3,g2,c3,r3,t3⟩:=zfj r2.wt.at_ r2.mm p.my p.ht k5 k4 (by rw [len3];exact hn) r2.all p.ay.app
   have r3:=r3.after r2.wt
   exact ⟨d2,_,_,S3,b_rt rfl (zah (zal (zaf (a_c (e_v rfl) (a_c (e_v rfl) a_n)) c1)) (zbz (zbr (b_of (e_2 (zaf (a_c (e_2s (e_v rfl) e_k rfl) a_n) (zby p.my S1)) (zaf (a_c (e_2s (e_v rfl) e_k rfl) a_n) (zby p.mx S1)) hge)) (zax (zcz (e_v rfl) (zcd p.wt.at_) (zdv _ _) (a_c (zcz (e_v rfl) (zcd p.wt.at_) (zdv _ _) (a_c (e_v rfl) (a_c (e_v rfl) (a_c (e_2s (e_v rfl) e_k rfl) a_n))) c2) (a_c (e_2s (e_v rfl) e_k rfl) (a_c (e_2s (e_v rfl) e_k rfl) a_n))) c3))))),(app3 lt xt yt).symm ▸ r3,k6 _ t3.sym,few2 f1⟩
 · have hge:opGe (.int yh) (.int xh)=some (.bl false):=by rw [ge_e,decide_eq_false hg]
   obtain ⟨x',v,y',xt',yt',xh',yh',w2,S2,c2,p2⟩:=parts_r p.mx (by omega) p.wt.at_ p.ax
   have e3:=p2.hts
   subst e3
   obtain ⟨⟨k1,k2⟩,⟨k3,k4⟩,k5⟩:=up2 hh p.hh.sym p.h2 p.h1 hg p2.hh.sym p2.h2 p2.h1
   have f2:=p2.few
   clear hg e2
   have wt2:=p.wt.two p2.wt
   obtain ⟨d1,S3,g1,c3,r3,t3⟩:=zfj wt2.at_ ml p2.mx ht k4 k3 (len_d hn) al.old p2.ax.two
   have r3:=r3.after wt2
   obtain ⟨d2,S4,g2,c4,r4,t4⟩:=zfj r3.wt.at_ p2.my p.my p.ht k2 k1 (len_e hn) p2.ay.two.app p.ay.app.app
   have r4:=r4.after r3.wt
   obtain ⟨k6,k7,k8⟩:=k5 _ _ t4.sym t3.sym
   obtain ⟨d3,S5,g3,c5,r5,t5⟩:=zfj r4.wt.at_ r3.mm r4.mm p2.ht k7 k6 (len_f hn) r3.all.app r4.all
   have r5:=r5.after r4.wt
   exact ⟨d3,_,_,S5,b_rt rfl (zah (zal (zaf (a_c (e_v rfl) (a_c (e_v rfl) a_n)) c1)) (zah (zaq (b_of (e_2 (zaf (a_c (e_2s (e_v rfl) e_k rfl) a_n) (zby p.my S1)) (zaf (a_c (e_2s (e_v rfl) e_k rfl) a_n) (zby p.mx S1)) hge))) (zah (zal (zaf (a_c (e_v rfl) (a_c (e_2s (e_v rfl) e_k rfl) a_n)) c2)) (zah (zal (zcz (e_v rfl) (zcd wt2.at_) (zdv _ _) (a_c (e_v rfl) (a_c (e_v rfl) (a_c (e_2s (e_v rfl) e_k rfl) a_n))) c3)) (zah (zal (zcz (e_v rfl) (zcd r3.wt.at_) (zdv _ _) (a_c (e_2s (e_v rfl) e_k rfl) (a_c (e_2s (e_v rfl) e_k rfl) (a_c (e_2s (e_v rfl) e_k rfl) a_n))) c4)) (zax (zcz (e_v rfl) (zcd r4.wt.at_) (zdv _ _) (a_c (e_v rfl) (a_c (e_2s (e_v rfl) e_k rfl) (a_c (e_v rfl) a_n))) c5))))))),app6 lt xt' yt' yt ▸ r5,k8 _ t5.sym,few5 f1 f2⟩
structure Hi (a b h:Nat):Prop where
 l:a≤h
 r:b≤h
 m:∀z,a≤z→b≤z→h≤z + 1
theorem Top.hi {a b h:Nat} (p:Top a b h):Hi a b h:=⟨Nat.le_of_lt p.l,Nat.le_of_lt p.r,fun z h1 h2=>by rcases p.e with rfl | rfl <;> omega⟩
theorem zet (hw:S[i]? = some (wd (addv k) n)) (ml:Mk k l lt lh) (mr:Mk k r rt rh) (ht:Thing k t) (h1:lh≤rh + 2) (h2:rh≤lh + 2) (hn:lt.length + 1 + rt.length≤2000) (al:All P l) (ar:All P r) :
   ∃d h new S',zco [.obj i,l,t,r] S=some (d,S')∧Res k i S n P (lt++t::rt) d h new S'∧Hi lh rh h∧(lh≤rh + 1→rh≤lh + 1→Top lh rh h)∧new.length≤7:=by
 have bl:=in_balance_ok ml mr S
 by_cases hb:lh≤rh + 1∧rh≤lh + 1
 · rw [decide_eq_true hb] at bl
   obtain ⟨d1,S1,g1,c1,r1,t1⟩:=zfj hw ml mr ht hb.1 hb.2 hn al ar
   exact ⟨d1,_,_,S1,b_rt rfl (zbz (zbr (b_of (zaf (a_c (e_v rfl) (a_c (e_v rfl) a_n)) bl)) (zax (zcz (e_v rfl) (zcd hw) (zdv _ _) (a_c (e_v rfl) (a_c (e_v rfl) (a_c (e_v rfl) a_n))) c1)))),r1,t1.hi,fun _ _=>t1,Nat.le_of_ble_eq_true rfl⟩
 · rw [decide_eq_false hb] at bl
   by_cases hg:rh < lh
   · have e:lh=rh + 2:=by omega
     obtain ⟨d1,h,w,S1,c1,r1,⟨q1,q2⟩,q3⟩:=lifted_left_ok hw ml mr ht e hn al ar
     exact ⟨d1,h,w,S1,b_rt rfl (zah (zaq (b_of (zaf (a_c (e_v rfl) (a_c (e_v rfl) a_n)) bl))) (zbz (zbr (b_of (e_2 (zaf (a_c (e_v rfl) a_n) (zby ml S)) (zaf (a_c (e_v rfl) a_n) (zby mr S)) (by rw [gt_e,decide_eq_true hg]))) (zax (zaf (a_c (e_v rfl) (a_c (e_v rfl) (a_c (e_v rfl) (a_c (e_v rfl) a_n)))) c1))))),r1,⟨q1,Nat.le_trans (Nat.le_of_lt hg) q1,fun z z1 z2=>Nat.le_trans q2 (Nat.succ_le_succ z1)⟩,fun u v=>absurd ⟨u,v⟩ hb,q3⟩
   · have e:rh=lh + 2:=by omega
     obtain ⟨d1,h,w,S1,c1,r1,⟨q1,q2⟩,q3⟩:=lifted_right_ok hw ml mr ht e hn al ar
     exact ⟨d1,h,w,S1,b_rt rfl (zah (zaq (b_of (zaf (a_c (e_v rfl) (a_c (e_v rfl) a_n)) bl))) (zah (zaq (b_of (e_2 (zaf (a_c (e_v rfl) a_n) (zby ml S)) (zaf (a_c (e_v rfl) a_n) (zby mr S)) (by rw [gt_e,decide_eq_false hg])))) (zax (zaf (a_c (e_v rfl) (a_c (e_v rfl) (a_c (e_v rfl) (a_c (e_v rfl) a_n)))) c1)))),r1,⟨Nat.le_trans (Nat.not_lt.mp hg) q1,q1,fun z z1 z2=>Nat.le_trans q2 (Nat.succ_le_succ z2)⟩,fun u v=>absurd ⟨u,v⟩ hb,q3⟩
theorem dn1 {a b h z c:Nat} (p:Top a b h) (q1:a≤b + 1) (q2:b≤a + 1) (hz:z + 2≤h) (j:Hi b z c):a≤c + 2∧c≤a + 2:=by
 obtain ⟨p1,p2,p3⟩:=p
 have:=j.l
 have:=j.m (b) (Nat.le_refl _) (by omega)
 omega
theorem dn2 {a b h z c g:Nat} (p:Top a b h) (q1:a≤b + 1) (q2:b≤a + 1) (hz:z + 2≤h) (j:Hi b z c) (q:Hi a c g) (w:a≤c + 1→c≤a + 1→Top a c g):Hi h z g:=by
 obtain ⟨p1,p2,p3⟩:=p
 have c1:=j.l
 have c2:=j.m b (Nat.le_refl _) (by omega)
 have g1:=q.l
 have g2:=q.r
 have:h≤g∧g≤h + 1:=by
   by_cases hb:a≤c + 1∧c≤a + 1
   · obtain ⟨w1,w2,w3⟩:=w hb.1 hb.2
     omega
   · have g3:=q.m c (by omega) (Nat.le_refl _)
     omega
 exact ⟨this.1,by omega,fun y y1 _=>Nat.le_trans this.2 (Nat.succ_le_succ y1)⟩
theorem dn3 {a b h z f:Nat} (p:Top a b h) (q1:a≤b + 1) (q2:b≤a + 1) (hz:z + 2≤h) (hf:h≤z + (f + 1)):b≤z + f∧z≤b + f:=by
 obtain ⟨p1,p2,p3⟩:=p
 omega
theorem Hi.sym {a b h:Nat} (p:Hi a b h):Hi b a h:=⟨p.r,p.l,fun z u v=>p.m z v u⟩
theorem joined_ok:∀(f c:Nat) {l r:D}{lt rt:List D}{lh rh:Nat}{n:Int}{S:Sto}{P:D→Prop},S[i]? = some (wd (addv k) n)→Mk k l lt lh→Mk k r rt rh→Thing k t→lt.length + 1 + rt.length≤2000→All P l→All P r→lh≤rh + c→rh≤lh + c→c < f →
   ∃d h new S',zex f [.obj i,l,t,r] S=some (d,S')∧Res k i S n P (lt++t::rt) d h new S'∧Hi lh rh h∧(lh≤rh + 1→rh≤lh + 1→Top lh rh h)∧new.length≤9 * c + 1
 | 0,_,_,_,_,_,_,_,_,_,_,_,_,_,_,_,_,_,_,_,hf=>absurd hf (Nat.not_lt_zero _)
 | f + 1,c,l,r,lt,rt,lh,rh,n,S,P,hw,ml,mr,ht,hn,al,ar,hc1,hc2,hf=>by
   have bl:=in_balance_ok ml mr S
   by_cases hb:lh≤rh + 1∧rh≤lh + 1
   · rw [decide_eq_true hb] at bl
     obtain ⟨d1,S1,g1,c1,r1,t1⟩:=zfj hw ml mr ht hb.1 hb.2 hn al ar
     exact ⟨d1,_,_,S1,b_rt rfl (zbz (zbr (b_of (zaf (a_c (e_v rfl) (a_c (e_v rfl) a_n)) bl)) (zax (zcz (e_v rfl) (zcd hw) (zdv _ _) (a_c (e_v rfl) (a_c (e_v rfl) (a_c (e_v rfl) a_n))) c1)))),r1,t1.hi,fun _ _=>t1,Nat.le_add_left _ _⟩
   · rw [decide_eq_false hb] at bl
     cases c with
     | zero=>omega
     | succ c =>
       by_cases hg:rh < lh
       · have hz:rh + 2≤lh:=by omega
         clear hc2
         obtain ⟨x,u,y,xt,yt,xh,yh,w1,S1,c1,p⟩:=parts_r ml (Nat.lt_of_le_of_lt (Nat.zero_le _) hg) hw al
         have e1:=p.hts
         subst e1
         obtain ⟨k1,k2⟩:=dn3 p.hh p.h1 p.h2 hz hc1
         obtain ⟨d1,g1,w2,S2,c2,r2,b1,b0,b2⟩:=joined_ok f c p.wt.at_ p.my mr ht (len_l hn) p.ay ar.old k1 k2 (Nat.lt_of_succ_lt_succ hf)
         have r2:=r2.after p.wt
         obtain ⟨k3,k4⟩:=dn1 p.hh p.h1 p.h2 hz b1
         obtain ⟨d2,g2,w3,S3,c3,r3,b5,b6,b7⟩:=zet r2.wt.at_ p.mx r2.mm p.ht k3 k4 (by rw [← len3];exact hn) p.ax.app r2.all
         have r3:=r3.after r2.wt
         exact ⟨d2,g2,_,S3,b_rt rfl (zah (zaq (b_of (zaf (a_c (e_v rfl) (a_c (e_v rfl) a_n)) bl))) (zbz (zbr (b_of (e_2 (zaf (a_c (e_v rfl) a_n) (zby ml S)) (zaf (a_c (e_v rfl) a_n) (zby mr S)) (by rw [gt_e,decide_eq_true hg]))) (zah (zal (zaf (a_c (e_v rfl) (a_c (e_v rfl) a_n)) c1)) (zax (zaf (a_c (e_v rfl) (a_c (e_2s (e_v rfl) e_k rfl) (a_c (e_2s (e_v rfl) e_k rfl) (a_c (zaf (a_c (e_v rfl) (a_c (e_2s (e_v rfl) e_k rfl) (a_c (e_v rfl) (a_c (e_v rfl) a_n)))) c2) a_n)))) c3)))))),app3 xt yt rt ▸ r3,dn2 p.hh p.h1 p.h2 hz b1 b5 b6,fun u v=>absurd ⟨u,v⟩ hb,few9 p.few b2 b7⟩
       · have hz:lh + 2≤rh:=by omega
         clear hc1
         obtain ⟨x,u,y,xt,yt,xh,yh,w1,S1,c1,p⟩:=parts_r mr (Nat.lt_of_lt_of_le (by decide) (Nat.le_trans (Nat.le_add_left 2 lh) hz)) hw ar
         have e1:=p.hts
         subst e1
         obtain ⟨k1,k2⟩:=dn3 p.hh.sym p.h2 p.h1 hz hc2
         obtain ⟨d1,g1,w2,S2,c2,r2,b1,b0,b2⟩:=joined_ok f c p.wt.at_ ml p.mx ht (len_r hn) al.old p.ax k2 k1 (Nat.lt_of_succ_lt_succ hf)
         have r2:=r2.after p.wt
         obtain ⟨k3,k4⟩:=dn1 p.hh.sym p.h2 p.h1 hz b1.sym
         obtain ⟨d2,g2,w3,S3,c3,r3,b5,b6,b7⟩:=zet r2.wt.at_ r2.mm p.my p.ht k4 k3 (by rw [len3];exact hn) r2.all p.ay.app
         have r3:=r3.after r2.wt
         exact ⟨d2,g2,_,S3,b_rt rfl (zah (zaq (b_of (zaf (a_c (e_v rfl) (a_c (e_v rfl) a_n)) bl))) (zah (zaq (b_of (e_2 (zaf (a_c (e_v rfl) a_n) (zby ml S)) (zaf (a_c (e_v rfl) a_n) (zby mr S)) (by rw [gt_e,decide_eq_false hg])))) (zah (zal (zaf (a_c (e_v rfl) (a_c (e_v rfl) a_n)) c1)) (zax (zaf (a_c (e_v rfl) (a_c (zaf (a_c (e_v rfl) (a_c (e_v rfl) (a_c (e_v rfl) (a_c (e_2s (e_v rfl) e_k rfl) a_n)))) c2) (a_c (e_2s (e_v rfl) e_k rfl) (a_c (e_2s (e_v rfl) e_k rfl) a_n)))) c3))))),(app3 lt xt yt).symm ▸ r3,(dn2 p.hh.sym p.h2 p.h1 hz b1.sym b5.sym fun u v=>(b6 v u).sym).sym,fun u v=>absurd ⟨u,v⟩ hb,few9 p.few b2 b7⟩
end Pg
set_option maxHeartbeats 4000000
namespace Pg
open PySem L2 F Mt
variable {k:Nat} [Kd k] {d l r t x y:D}{ts lt rt:List D}{h lh rh i:Nat}{n:Int}{S S0 S1:Sto}{ev e:Ev}{P Q:D→Prop}{a b new:List D}
theorem lt_e (x y:Nat):opLt (.int x) (.int y)=some (.bl (decide (x < y))):=congrArg (fun b=>some (D.bl b)) (decide_eq_decide.mpr Int.ofNat_lt)
theorem le_e (x y:Nat):opLe (.int x) (.int y)=some (.bl (decide (x≤y))):=congrArg (fun b=>some (D.bl b)) (decide_eq_decide.mpr Int.ofNat_le)
theorem lt_T {x y:Nat} (h:x < y):opLt (.int x) (.int y)=some (.bl true):=by rw [lt_e,decide_eq_true h]
theorem lt_F {x y:Nat} (h:¬ x < y):opLt (.int x) (.int y)=some (.bl false):=by rw [lt_e,decide_eq_false h]
theorem le_T {x y:Nat} (h:x≤y):opLe (.int x) (.int y)=some (.bl true):=by rw [le_e,decide_eq_true h]
theorem le_F {x y:Nat} (h:¬ x≤y):opLe (.int x) (.int y)=some (.bl false):=by rw [le_e,decide_eq_false h]
theorem gt_T {x y:Nat} (h:y < x):opGt (.int x) (.int y)=some (.bl true):=by rw [gt_e,decide_eq_true h]
theorem gt_F {x y:Nat} (h:¬ y < x):opGt (.int x) (.int y)=some (.bl false):=by rw [gt_e,decide_eq_false h]
theorem eq_T {x y:Nat} (h:x=y):opEq (.int x) (.int y)=some (.bl true):=by rw [eq_int,h];simp
theorem eq_F {x y:Nat} (h:x≠y):opEq (.int x) (.int y)=some (.bl false):=by
 rw [eq_int];simp;omega
theorem e_sub2 {f g:E}{p m q:Nat} (hf:f ev S=some (.int p,S)) (hg:g ev S=some (.int m,S)) (hq:p=m + 1 + q):e2 zdu (e2 zdu f g) (eK (.int 1)) ev S=some (.int q,S) :=
 e_2 (e_2 hf hg (sub_int _ _)) e_k (by rw [sub_int,show (p:Int) - m - 1=q by omega])
def HB (m h:Nat):Prop:=m < 2 ^ h∧2 ^ h≤2 * m + 1
theorem hb_step {m a b:Nat} (hm:0 < m) (ha:HB (m / 2) a) (hb:HB ((m - 1) / 2) b):a≤b + 1∧b≤a + 1∧∀h,Top a b h→HB m h:=by
 obtain ⟨a1,a2⟩:=ha
 obtain ⟨b1,b2⟩:=hb
 have h1:b≤a:=by
   rcases Nat.lt_or_ge a b with q | q
   · have:=Nat.pow_le_pow_right (n:=2) (by decide) (show a + 1≤b from q)
     rw [Nat.pow_succ] at this
     omega
   · exact q
 have h2:a≤b + 1:=by
   rcases Nat.lt_or_ge (b + 1) a with q | q
   · have:=Nat.pow_le_pow_right (n:=2) (by decide) (show b + 1 + 1≤a from q)
     rw [Nat.pow_succ,Nat.pow_succ] at this
     omega
   · exact q
 refine ⟨h2,by omega,fun h ⟨_,_,e⟩=>?_⟩
 have e:h=a + 1:=by omega
 subst e
 unfold HB
 rw [Nat.pow_succ]
 cases a with
 | zero=>rw [Nat.pow_zero] at a1 a2 ⊢;omega
 | succ a=>rw [Nat.pow_succ] at a1 a2 ⊢;omega
theorem at_mid (p a c:List D):atI (p++a++t::c) (((p.length + a.length:Nat)):Int)=some t:=atI_nat (by rw [List.getElem?_append_right (by simp),List.length_append];simp)
theorem halves:∀{ts:List D},ts≠[]→∃a t b,ts=a++t::b∧a.length=ts.length / 2∧b.length=(ts.length - 1) / 2:=fun {ts} h=>by
 have hl:0 < ts.length:=List.length_pos_iff.mpr h
 have hm:ts.length / 2 < ts.length:=by omega
 refine ⟨ts.take (ts.length / 2),ts[ts.length / 2],ts.drop (ts.length / 2 + 1),?_,?_,?_⟩
 · rw [← List.drop_eq_getElem_cons hm,List.take_append_drop]
 · rw [List.length_take];omega
 · rw [List.length_drop];omega
theorem built_ok:∀(f:Nat) {p ts q:List D}{n:Int}{S:Sto}{P:D→Prop},S[i]? = some (wd (addv k) n)→(∀x∈ts,Thing k x)→ts.length≤2000→ts.length < 2 ^ f→∀{s e:Nat},s=p.length→e=p.length + ts.length →
   ∃d h new S',g_built (f + 1) [.obj i,.lst (p++ts++q),.int s,.int e] S=some (d,S')∧Res k i S n P ts d h new S'∧HB ts.length h
 | f,p,ts,q,n,S,P,hw,ht,hl,hf,s,e,hs,he=>by
   by_cases h0:ts=[]
   · subst h0
     refine ⟨.non,0,[],S,b_rt rfl (zbz (zbr (b_of (e_2 (e_v rfl) (e_v rfl) (eq_T (by simp [hs,he])))) (zax e_k))),⟨.non,Wt.nil hw,.non⟩,by decide,by decide⟩
   · obtain ⟨a,t,b,e0,la,lb⟩:=halves h0
     have hlen:0 < ts.length:=List.length_pos_iff.mpr h0
     cases f with
     | zero=>rw [Nat.pow_zero] at hf;omega
     | succ f =>
       rw [Nat.pow_succ] at hf
       obtain ⟨d1,h1,w1,S1,c1,r1,b1⟩:=built_ok f (p:=p) (ts:=a) (q:=t::b++q) (P:=P) hw (fun x hx=>ht x (by rw [e0];exact List.mem_append_left _ hx)) (by omega) (by omega) hs rfl
       obtain ⟨d2,h2,w2,S2,c2,r2,b2⟩:=built_ok f (p:=p++a++[t]) (ts:=b) (q:=q) (P:=Ac P n w1) r1.wt.at_ (fun x hx=>ht x (by rw [e0];exact List.mem_append_right _ (List.mem_cons_of_mem _ hx))) (by omega) (by omega) (s:=p.length + a.length + 1) (e:=e) (by simp;omega) (by simp;omega)
       have r2:=r2.after r1.wt
       rw [la] at b1
       rw [lb] at b2
       obtain ⟨q1,q2,q3⟩:=hb_step hlen b1 b2
       have e1:p++a++(t::b++q)=p++ts++q:=by rw [e0];simp
       have e2:p++a++[t]++b++q=p++ts++q:=by rw [e0];simp
       have e3:p++ts++q=p++a++t::(b++q):=by rw [e0];simp
       rw [e1] at c1
       rw [e2] at c2
       obtain ⟨d3,S3,h3,c3,r3,t3⟩:=zfj r2.wt.at_ r1.mm r2.mm (ht t (by rw [e0];simp)) q1 q2 (by omega) r1.all.app r2.all
       have r3:=r3.after r2.wt
       rw [← e0] at r3
       have em:zdi (.int ((s:Int) + e)) (.int 2)=some (.int ((p.length + a.length:Nat):Int)):=by rw [div_e (by decide),show ((s:Int) + e) / 2=((p.length + a.length:Nat):Int) by omega]
       exact ⟨d3,h3,_,S3,b_rt rfl (zah (zaq (b_of (e_2 (e_v rfl) (e_v rfl) (eq_F (by omega))))) (zah (zal (e_2 (e_2 (e_v rfl) (e_v rfl) (add_int _ _)) e_k em)) (zah (zal (zaf (a_c (e_v rfl) (a_c (e_v rfl) (a_c (e_v rfl) (a_c (e_v rfl) a_n)))) c1)) (zah (zal (zaf (a_c (e_v rfl) (a_c (e_v rfl) (a_c (e_2 (e_v rfl) e_k (add_int _ _)) (a_c (e_v rfl) a_n)))) c2)) (zax (zcz (e_v rfl) (zcd r2.wt.at_) (zdv _ _) (a_c (e_v rfl) (a_c (e_2s (e_v rfl) (e_v rfl) (by rw [e3];exact at_mid _ _ _)) (a_c (e_v rfl) a_n))) c3)))))),r3,q3 _ t3⟩
theorem make_of_ok (hw:S[i]? = some (wd (addv k) n)) (ht:∀x∈ts,Thing k x) (hl:ts.length≤2000):∃d h new S',g_make_of [.obj i,.lst ts] S=some (d,S')∧Res k i S n P ts d h new S':=by
 obtain ⟨d,h,new,S1,c,r,_⟩:=built_ok (i:=i) (k:=k) 39 (p:=[]) (ts:=ts) (q:=[]) (P:=P) hw ht hl (Nat.lt_of_le_of_lt hl (by decide)) (s:=0) (e:=ts.length) rfl (by simp)
 rw [List.nil_append,List.append_nil] at c
 exact ⟨d,h,new,S1,b_rt rfl (zah (zdb (zaf (a_c (e_a (a_c (e_v rfl) a_n) rfl) a_n) (room_ok hl S))) (zax (zaf (a_c (e_v rfl) (a_c (e_v rfl) (a_c e_k (a_c (e_a (a_c (e_v rfl) a_n) rfl) a_n)))) c))),r⟩
theorem eq_bl (a b:Bool):opEq (.bl a) (.bl b)=some (.bl (a == b)):=rfl
structure Seen (k:Nat) (us:List D) (h:Nat) (x t y:D) (c:Bool) (xt yt:List D) (xh yh:Nat):Prop where
 mx:Mk k x xt xh
 my:Mk k y yt yh
 ht:Thing k t
 hu:us=ord c xt++t::ord c yt
 hx:xh < h
 hy:yh < h
theorem seen_ok (m:Mk k d ts h) (hh:0 < h) (b:Bool) (S:Sto):∃x t y c xt yt xh yh,g_seen [d,.bl b] S=some (.tup [x,t,y,.bl c],S)∧Seen k (ord b ts) h x t y c xt yt xh yh:=by
 cases m with
 | non=>omega
 | @node num a l t r lt rt lh rh ml mr ht h1 h2 =>
   unfold mkD
   by_cases e:a=b
   · subst e
     exact ⟨l,t,r,false,lt,rt,lh,rh,b_rt rfl (zbz (zbr (b_of (e_2 (e_2s (e_v rfl) e_k rfl) (e_v rfl) (by rw [eq_bl];simp))) (zax (zey (a_c (e_2s (e_v rfl) e_k rfl) (a_c (e_2s (e_v rfl) e_k rfl) (a_c (e_2s (e_v rfl) e_k rfl) (a_c e_k a_n)))) (Nat.le_of_ble_eq_true rfl))))),ml,mr,ht,by cases a <;> simp [ord],by omega,by omega⟩
   · exact ⟨r,t,l,true,rt,lt,rh,lh,b_rt rfl (zah (zaq (b_of (e_2 (e_2s (e_v rfl) e_k rfl) (e_v rfl) (by rw [eq_bl];simp [e])))) (zax (zey (a_c (e_2s (e_v rfl) e_k rfl) (a_c (e_2s (e_v rfl) e_k rfl) (a_c (e_2s (e_v rfl) e_k rfl) (a_c e_k a_n)))) (Nat.le_of_ble_eq_true rfl)))),mr,ml,ht,by cases a <;> cases b <;> simp_all [ord],by omega,by omega⟩
theorem mk_pos (m:Mk k d ts h) (hl:ts≠[]):0 < h:=by
 cases m with
 | non=>exact absurd rfl hl
 | node _ _ _ _ _=>omega
theorem ne_of {p:Nat} (h:ts[p]? = some x):ts≠[]:=fun e=>by rw [e] at h;cases h
theorem ord_ne {c:Bool} (h:ord c ts≠[]):ts≠[]:=fun e=>h (by rw [e];cases c <;> rfl)
theorem thing_at_ok:∀(f:Nat) {d:D}{ts:List D}{h p:Nat}{b:Bool},Mk k d ts h→h≤f→(ord b ts)[p]? = some x→∀S,zdp f [d,.bl b,.int p] S=some (x,S)
 | 0,d,ts,h,p,b,m,hf,hp,S=>absurd (mk_pos m (ord_ne (ne_of hp))) (Nat.not_lt.mpr hf)
 | f + 1,d,ts,h,p,b,m,hf,hp,S=>by
   obtain ⟨u,t,y,c,xt,yt,xh,yh,c1,s⟩:=seen_ok m (mk_pos m (ord_ne (ne_of hp))) b S
   have hu:=s.hu
   rw [hu] at hp
   have lx:=ord_len c xt
   have hx:=s.hx
   have hy:=s.hy
   have c2:=zbm s.mx S
   by_cases h1:p < xt.length
   · rw [List.getElem?_append_left (by omega)] at hp
     exact b_rt rfl (zah (zal (zaf (a_c (e_v rfl) (a_c (e_v rfl) a_n)) c1)) (zah (zal (zaf (a_c (e_2s (e_v rfl) e_k rfl) a_n) c2)) (zbz (zbr (b_of (e_2 (e_v rfl) (e_v rfl) (lt_T h1))) (zax (zaf (a_c (e_2s (e_v rfl) e_k rfl) (a_c (e_2s (e_v rfl) e_k rfl) (a_c (e_v rfl) a_n))) (thing_at_ok f s.mx (by omega) hp S)))))))
   · rw [List.getElem?_append_right (by omega),lx] at hp
     by_cases h2:xt.length < p
     · have e:p=xt.length + 1 + (p - xt.length - 1):=by omega
       rw [show p - xt.length=(p - xt.length - 1) + 1 by omega,List.getElem?_cons_succ] at hp
       exact b_rt rfl (zah (zal (zaf (a_c (e_v rfl) (a_c (e_v rfl) a_n)) c1)) (zah (zal (zaf (a_c (e_2s (e_v rfl) e_k rfl) a_n) c2)) (zah (zaq (b_of (e_2 (e_v rfl) (e_v rfl) (lt_F h1)))) (zbz (zbr (b_of (e_2 (e_v rfl) (e_v rfl) (gt_T h2))) (zax (zaf (a_c (e_2s (e_v rfl) e_k rfl) (a_c (e_2s (e_v rfl) e_k rfl) (a_c (e_sub2 (e_v rfl) (e_v rfl) e) a_n))) (thing_at_ok f s.my (by omega) hp S))))))))
     · rw [show p - xt.length=0 by omega,List.getElem?_cons_zero] at hp
       cases hp
       exact b_rt rfl (zah (zal (zaf (a_c (e_v rfl) (a_c (e_v rfl) a_n)) c1)) (zah (zal (zaf (a_c (e_2s (e_v rfl) e_k rfl) a_n) c2)) (zah (zaq (b_of (e_2 (e_v rfl) (e_v rfl) (lt_F h1)))) (zah (zaq (b_of (e_2 (e_v rfl) (e_v rfl) (gt_F h2)))) (zax (e_2s (e_v rfl) e_k rfl))))))
end Pg
set_option maxHeartbeats 4000000
namespace Pg
open PySem L2 F Mt
variable {k:Nat} [Kd k] {d l r t x y:D}{ts lt rt:List D}{h lh rh i:Nat}{n:Int}{S S0 S1:Sto}{ev e:Ev}{P Q:D→Prop}{a b new:List D}
theorem mk_nil (m:Mk k d [] h):d=.non∧h=0:=by
 generalize e:([]:List D)=ts at m
 cases m with
 | non=>exact ⟨rfl,rfl⟩
 | node _ _ _ _ _=>exact absurd (congrArg List.length e) (by rw [ord_len];simp)
theorem h15 (m:Mk k d ts h) (hl:ts.length≤2000):h≤15:=by
 have q:=mk_low m
 rcases Nat.lt_or_ge 15 h with z | z
 · have:low 16≤low h:=low_mono z
   have e:low 16=2583:=by decide
   omega
 · exact z
theorem o1 {xh yh h g:Nat} (p:Top xh yh h) (q1:xh≤yh + 1) (q2:yh≤xh + 1) (g1:g≤xh) (g2:xh≤g + 1):(g≤yh + 2∧yh≤g + 2)∧∀z,Hi g yh z→(g≤yh + 1→yh≤g + 1→Top g yh z)→z≤h∧h≤z + 1:=by
 obtain ⟨p1,p2,p3⟩:=p
 refine ⟨⟨by omega,by omega⟩,fun z hz ht=>?_⟩
 by_cases hb:g≤yh + 1∧yh≤g + 1
 · obtain ⟨t1,t2,t3⟩:=ht hb.1 hb.2
   omega
 · have:=hz.r
   have:=hz.m yh (by omega) (Nat.le_refl _)
   omega
theorem few_o {a b c:List D}{m xh yh h:Nat} (p:Top xh yh h) (h1:a.length≤2) (h2:b.length≤9 * xh + m) (h3:c.length≤7):(a++b++c).length≤9 * h + m:=by
 have:=p.l
 simp only [List.length_append];omega
theorem few_o' {a b c:List D}{m xh yh h:Nat} (p:Top xh yh h) (h1:a.length≤2) (h2:b.length≤9 * yh + m) (h3:c.length≤7):(a++b++c).length≤9 * h + m:=few_o p.sym h1 h2 h3
theorem not_lt0:¬ (0:Nat) < 0:=by decide
theorem laid_n1 {self:G} (S:Sto):zdn self [.obj i,.non,y] S=some (y,S):=rfl
theorem out0_ok:∀(f:Nat) {d u:D}{rest:List D}{h:Nat}{n:Int}{S:Sto}{P:D→Prop},S[i]? = some (wd (addv k) n)→Mk k d (u::rest) h→rest.length < 2000→All P d→h≤f →
   ∃d' h' new S',zcw f [.obj i,d,.int (0:Nat)] S=some (d',S')∧Res k i S n P rest d' h' new S'∧(h'≤h∧h≤h' + 1)∧new.length≤9 * h
 | 0,_,_,_,_,_,_,_,_,m,_,_,hf=>absurd (mk_pos m (by simp)) (Nat.not_lt.mpr hf)
 | f + 1,d,u,rest,h,n,S,P,hw,m,hl,al,hf=>by
   obtain ⟨x,v,y,xt,yt,xh,yh,w1,S1,c1,p⟩:=parts_r m (mk_pos m (by simp)) hw al
   have e1:=p.hts
   have c2:=zbm p.mx S1
   cases xt with
   | nil =>
     obtain ⟨rfl,rfl⟩:=mk_nil p.mx
     simp only [List.nil_append,List.cons.injEq] at e1
     obtain ⟨rfl,rfl⟩:=e1
     have e:h=yh + 1:=by have:=p.hh.l;have:=p.hh.r;have:=p.hh.e;omega
     exact ⟨y,yh,w1,S1,b_rt rfl (zah (zal (zaf (a_c (e_v rfl) (a_c (e_v rfl) a_n)) c1)) (zah (zal (zaf (a_c (e_2s (e_v rfl) e_k rfl) a_n) c2)) (zah (zaq (b_of (e_2 (e_v rfl) (e_v rfl) (lt_F not_lt0)))) (zah (zaq (b_of (e_2 (e_v rfl) (e_v rfl) (gt_F not_lt0)))) (zax (zaf (a_c (e_v rfl) (a_c (e_2s (e_v rfl) e_k rfl) (a_c (e_2s (e_v rfl) e_k rfl) a_n))) (laid_n1 S1))))))),⟨p.my,p.wt,p.ay⟩,⟨by omega,by omega⟩,by have:=p.few;omega⟩
   | cons u' xt =>
     simp only [List.cons_append,List.cons.injEq] at e1
     obtain ⟨rfl,rfl⟩:=e1
     simp only [List.length_append,List.length_cons] at hl
     have hx:=p.hh.l
     obtain ⟨d1,g,w2,S2,c3,r2,⟨b1,b2⟩,b3⟩:=out0_ok f p.wt.at_ p.mx (by omega) p.ax (by omega)
     have r2:=r2.after p.wt
     obtain ⟨⟨k1,k2⟩,k3⟩:=o1 p.hh p.h1 p.h2 b1 b2
     obtain ⟨d2,g2,w3,S3,c4,r3,b5,b6,b7⟩:=zet r2.wt.at_ r2.mm p.my p.ht k1 k2 (by omega) r2.all p.ay.app
     have r3:=r3.after r2.wt
     exact ⟨d2,g2,_,S3,b_rt rfl (zah (zal (zaf (a_c (e_v rfl) (a_c (e_v rfl) a_n)) c1)) (zah (zal (zaf (a_c (e_2s (e_v rfl) e_k rfl) a_n) c2)) (zbz (zbr (b_of (e_2 (e_v rfl) (e_v rfl) (lt_T (Nat.zero_lt_succ _)))) (zax (zaf (a_c (e_v rfl) (a_c (zaf (a_c (e_v rfl) (a_c (e_2s (e_v rfl) e_k rfl) (a_c (e_v rfl) a_n))) c3) (a_c (e_2s (e_v rfl) e_k rfl) (a_c (e_2s (e_v rfl) e_k rfl) a_n)))) c4)))))),r3,k3 _ b5 b6,few_o (m:=0) p.hh p.few b3 b7⟩
theorem hi0 (h:Nat):Hi 0 h h:=⟨Nat.zero_le _,Nat.le_refl _,fun z _ q=>Nat.le_succ_of_le q⟩
theorem ld1 {lh rh g c:Nat} (g1:g≤rh) (g2:rh≤g + 1) (c1:lh≤rh + c) (c2:rh≤lh + c):lh≤g + (c + 1)∧g≤lh + (c + 1):=by omega
theorem ld2 {lh rh g z:Nat} (g1:g≤rh) (g2:rh≤g + 1) (h:Hi lh g z) (w:lh≤g + 1→g≤lh + 1→Top lh g z) (c1:lh≤rh + 1) (c2:rh≤lh + 1):Hi lh rh z:=by
 refine ⟨h.l,?_,fun y y1 y2=>h.m y y1 (by omega)⟩
 by_cases hb:lh≤g + 1∧g≤lh + 1
 · obtain ⟨t1,t2,t3⟩:=w hb.1 hb.2
   omega
 · have:=h.l
   omega
theorem tup_or (m:Mk k d ts h):(d=.non∧ts=[]∧h=0)∨((∃xs,d=.tup xs)∧∃u rest,ts=u::rest):=by
 cases m with
 | non=>exact .inl ⟨rfl,rfl,rfl⟩
 | @node num a l t r lt rt lh rh _ _ _ _ _ =>
   refine .inr ⟨⟨_,rfl⟩,?_⟩
   cases e:ord a (lt++t::rt) with
   | nil=>exact absurd (congrArg List.length e) (by rw [ord_len];simp)
   | cons u rest=>exact ⟨u,rest,rfl⟩
theorem is_non (xs:List D):opIs (.tup xs) .non=some (.bl false):=rfl
theorem laid_ok {f c:Nat} (hw:S[i]? = some (wd (addv k) n)) (ml:Mk k l lt lh) (mr:Mk k r rt rh) (hn:lt.length + rt.length≤2000) (al:All P l) (ar:All P r) (hf:rh≤f) (c1:lh≤rh + c) (c2:rh≤lh + c) :
   ∃d h new S',zdn (zcw f) [.obj i,l,r] S=some (d,S')∧Res k i S n P (lt++rt) d h new S'∧(lh≤rh + 1→rh≤lh + 1→Hi lh rh h)∧new.length≤9 * rh + 9 * c + 10:=by
 rcases tup_or ml with ⟨rfl,rfl,rfl⟩ | ⟨⟨xs,rfl⟩,u0,r0,rfl⟩
 · exact ⟨r,rh,[],S,rfl,⟨mr,Wt.nil hw,ar.old⟩,fun _ _=>hi0 rh,Nat.zero_le _⟩
 · rcases tup_or mr with ⟨rfl,rfl,rfl⟩ | ⟨⟨ys,rfl⟩,u,rest,rfl⟩
   · exact ⟨_,lh,[],S,rfl,⟨by rw [List.append_nil];exact ml,Wt.nil hw,al.old⟩,fun _ _=>(hi0 lh).sym,Nat.zero_le _⟩
   · simp only [List.length_cons] at hn
     have l15:=h15 ml (by simp only [List.length_cons];omega)
     have r15:=h15 mr (by simp only [List.length_cons];omega)
     obtain ⟨d1,g,w1,S1,q1,r1,⟨b1,b2⟩,b3⟩:=out0_ok f hw mr (by omega) ar hf
     have at0:=thing_at_ok (x:=u) 40 (b:=false) (p:=0) mr (by omega) rfl S
     have hj:∃c',c' < 40∧c'≤c + 1∧lh≤g + c'∧g≤lh + c':=by
       obtain ⟨z1,z2⟩:=ld1 b1 b2 c1 c2
       rcases Nat.lt_or_ge c 30 with q | q
       · exact ⟨c + 1,by omega,Nat.le_refl _,z1,z2⟩
       · exact ⟨16,by decide,by omega,by omega,by omega⟩
     obtain ⟨c',j1,j2,j3,j4⟩:=hj
     obtain ⟨d2,g2,w2,S2,q2,r2,b5,b6,b7⟩:=joined_ok 40 c' r1.wt.at_ ml r1.mm (mr.things u (List.mem_cons_self ..)) (by simp only [List.length_cons];omega) al.old r1.all j3 j4 j1
     have r2:=r2.after r1.wt
     exact ⟨d2,g2,_,S2,b_rt rfl (zah (zaq (b_of (e_2 (e_v rfl) e_k (is_non _)))) (zah (zaq (b_of (e_2 (e_v rfl) e_k (is_non _)))) (zax (zaf (a_c (e_v rfl) (a_c (e_v rfl) (a_c (zaf (a_c (e_v rfl) (a_c e_k (a_c e_k a_n))) at0) (a_c (zaf (a_c (e_v rfl) (a_c (e_v rfl) (a_c e_k a_n))) q1) a_n)))) q2)))),r2,ld2 b1 b2 b5 b6,by simp only [List.length_append];omega⟩
theorem erase_l {p:Nat} (h:p < a.length):(a++t::b).eraseIdx p=a.eraseIdx p++t::b:=List.eraseIdx_append_of_lt_length h _
theorem erase_m:(a++t::b).eraseIdx a.length=a++b:=by rw [List.eraseIdx_append_of_length_le (Nat.le_refl _),Nat.sub_self];rfl
theorem erase_r {q:Nat}:(a++t::b).eraseIdx (a.length + 1 + q)=a++t::b.eraseIdx q:=by rw [List.eraseIdx_append_of_length_le (by omega),show a.length + 1 + q - a.length=q + 1 by omega];rfl
theorem taken_out_ok:∀(f:Nat) {d:D}{ts:List D}{h p:Nat}{n:Int}{S:Sto}{P:D→Prop},S[i]? = some (wd (addv k) n)→Mk k d ts h→ts.length≤2000→p < ts.length→All P d→h≤f →
   ∃d' h' new S',zcw f [.obj i,d,.int p] S=some (d',S')∧Res k i S n P (ts.eraseIdx p) d' h' new S'∧(h'≤h∧h≤h' + 1)∧new.length≤9 * h + 21
 | 0,d,ts,h,p,n,S,P,hw,m,hl,hp,al,hf=>absurd (mk_pos m (List.length_pos_iff.mp (by omega))) (Nat.not_lt.mpr hf)
 | f + 1,d,ts,h,p,n,S,P,hw,m,hl,hp,al,hf=>by
   obtain ⟨x,v,y,xt,yt,xh,yh,w1,S1,c1,q⟩:=parts_r m (mk_pos m (List.length_pos_iff.mp (by omega))) hw al
   have e1:=q.hts
   subst e1
   have c2:=zbm q.mx S1
   have hx:=q.hh.l
   have hy:=q.hh.r
   simp only [List.length_append,List.length_cons] at hl hp
   by_cases h1:p < xt.length
   · obtain ⟨d1,g,w2,S2,c3,r2,⟨b1,b2⟩,b3⟩:=taken_out_ok f q.wt.at_ q.mx (by omega) h1 q.ax (by omega)
     have r2:=r2.after q.wt
     obtain ⟨⟨k1,k2⟩,k3⟩:=o1 q.hh q.h1 q.h2 b1 b2
     obtain ⟨d2,g2,w3,S3,c4,r3,b5,b6,b7⟩:=zet r2.wt.at_ r2.mm q.my q.ht k1 k2 (by rw [List.length_eraseIdx_of_lt h1];omega) r2.all q.ay.app
     have r3:=r3.after r2.wt
     exact ⟨d2,g2,_,S3,b_rt rfl (zah (zal (zaf (a_c (e_v rfl) (a_c (e_v rfl) a_n)) c1)) (zah (zal (zaf (a_c (e_2s (e_v rfl) e_k rfl) a_n) c2)) (zbz (zbr (b_of (e_2 (e_v rfl) (e_v rfl) (lt_T h1))) (zax (zaf (a_c (e_v rfl) (a_c (zaf (a_c (e_v rfl) (a_c (e_2s (e_v rfl) e_k rfl) (a_c (e_v rfl) a_n))) c3) (a_c (e_2s (e_v rfl) e_k rfl) (a_c (e_2s (e_v rfl) e_k rfl) a_n)))) c4)))))),by rw [erase_l h1];exact r3,k3 _ b5 b6,few_o q.hh q.few b3 b7⟩
   · by_cases h2:xt.length < p
     · obtain ⟨z,e⟩:∃z,p=xt.length + 1 + z:=⟨p - xt.length - 1,by omega⟩
       have hz:z < yt.length:=by omega
       obtain ⟨d1,g,w2,S2,c3,r2,⟨b1,b2⟩,b3⟩:=taken_out_ok f (p:=z) q.wt.at_ q.my (by omega) hz q.ay (by omega)
       have r2:=r2.after q.wt
       obtain ⟨⟨k1,k2⟩,k3⟩:=o1 q.hh.sym q.h2 q.h1 b1 b2
       obtain ⟨d2,g2,w3,S3,c4,r3,b5,b6,b7⟩:=zet r2.wt.at_ q.mx r2.mm q.ht k2 k1 (by rw [List.length_eraseIdx_of_lt hz];omega) q.ax.app r2.all
       have r3:=r3.after r2.wt
       exact ⟨d2,g2,_,S3,b_rt rfl (zah (zal (zaf (a_c (e_v rfl) (a_c (e_v rfl) a_n)) c1)) (zah (zal (zaf (a_c (e_2s (e_v rfl) e_k rfl) a_n) c2)) (zah (zaq (b_of (e_2 (e_v rfl) (e_v rfl) (lt_F h1)))) (zbz (zbr (b_of (e_2 (e_v rfl) (e_v rfl) (gt_T h2))) (zax (zaf (a_c (e_v rfl) (a_c (e_2s (e_v rfl) e_k rfl) (a_c (e_2s (e_v rfl) e_k rfl) (a_c (zaf (a_c (e_v rfl) (a_c (e_2s (e_v rfl) e_k rfl) (a_c (e_sub2 (e_v rfl) (e_v rfl) e) a_n))) c3) a_n)))) c4))))))),by rw [e,erase_r];exact r3,k3 _ b5.sym fun u v=>(b6 v u).sym,few_o' q.hh q.few b3 b7⟩
     · have e:p=xt.length:=by omega
       obtain ⟨d1,g,w2,S2,c3,r2,b1,b2⟩:=laid_ok (f:=f) (c:=1) q.wt.at_ q.mx q.my (by omega) q.ax q.ay (by omega) q.h1 q.h2
       have r2:=r2.after q.wt
       have hi:=b1 q.h1 q.h2
       have hm:=hi.m (h - 1) (by omega) (by omega)
       have h1':=hi.l
       have h2':=hi.r
       have he:=q.hh.e
       have hf:=q.few
       exact ⟨d1,g,_,S2,b_rt rfl (zah (zal (zaf (a_c (e_v rfl) (a_c (e_v rfl) a_n)) c1)) (zah (zal (zaf (a_c (e_2s (e_v rfl) e_k rfl) a_n) c2)) (zah (zaq (b_of (e_2 (e_v rfl) (e_v rfl) (lt_F h1)))) (zah (zaq (b_of (e_2 (e_v rfl) (e_v rfl) (gt_F h2)))) (zax (zaf (a_c (e_v rfl) (a_c (e_2s (e_v rfl) e_k rfl) (a_c (e_2s (e_v rfl) e_k rfl) a_n))) c3)))))),by rw [e,erase_m];exact r2,⟨by omega,by omega⟩,by simp only [List.length_append];omega⟩
end Pg
set_option maxHeartbeats 4000000
namespace Pg
open PySem L2 F Mt
variable {k:Nat} [Kd k] {d l r t x y:D}{ts lt rt:List D}{h lh rh i:Nat}{n:Int}{S S0 S1:Sto}{ev e:Ev}{P Q:D→Prop}{a b new:List D}
structure Cut (k i:Nat) (S:Sto) (n:Int) (P:D→Prop) (lt rt:List D) (h:Nat) (x y:D) (xh yh:Nat) (new:List D) (S':Sto):Prop where
 wt:Wt k i S n new S'
 mx:Mk k x lt xh
 my:Mk k y rt yh
 hx:xh≤h
 hy:yh≤h
 ax:All (Ac P n new) x
 ay:All (Ac P n new) y
 few:new.length≤9 * (xh + yh) + 3 * h
theorem ct1 {xh yh bh h:Nat} (p:Top xh yh h) (h1:xh≤yh + 1) (hb:bh≤xh) (h40:h < 40):∃c,c < 40∧bh≤yh + c∧yh≤bh + c∧∀z ah l1 l2 l3,Hi bh yh z→(bh≤yh + 1→yh≤bh + 1→Top bh yh z)→l1≤2→l2≤9 * (ah + bh) + 3 * xh→l3≤9 * c + 1→l1 + l2 + l3≤9 * (ah + z) + 3 * h:=by
 obtain ⟨p1,p2,p3⟩:=p
 by_cases q:bh≤yh
 · exact ⟨yh - bh,by omega,by omega,by omega,fun z ah l1 l2 l3 hz _ _ _ _=>by have:=hz.r;omega⟩
 · exact ⟨1,by decide,by omega,by omega,fun z ah l1 l2 l3 _ hz _ _ _=>by have:=(hz (by omega) (by omega)).l;omega⟩
theorem hi_le {a b z h:Nat} (p:Hi a b z) (h1:a < h) (h2:b < h):z≤h:=by
 have:=p.m (h - 1) (by omega) (by omega)
 omega
theorem take_l {p:Nat} (h:p≤a.length):(a++t::b).take p=a.take p:=List.take_append_of_le_length h
theorem drop_l {p:Nat} (h:p≤a.length):(a++t::b).drop p=a.drop p++t::b:=List.drop_append_of_le_length h
theorem take_r {q:Nat}:(a++t::b).take (a.length + 1 + q)=a++t::b.take q:=by rw [List.take_append,List.take_of_length_le (by omega),show a.length + 1 + q - a.length=q + 1 by omega,List.take_succ_cons]
theorem drop_r {q:Nat}:(a++t::b).drop (a.length + 1 + q)=b.drop q:=by rw [List.drop_append,List.drop_of_length_le (by omega),show a.length + 1 + q - a.length=q + 1 by omega,List.drop_succ_cons,List.nil_append]
theorem cut_ahead_ok:∀(f:Nat) {d:D}{ts:List D}{h p:Nat}{n:Int}{S:Sto}{P:D→Prop},S[i]? = some (wd (addv k) n)→Mk k d ts h→ts.length≤2000→p≤ts.length→All P d→h < f →
   ∃x y xh yh new S',zdf f [.obj i,d,.int p] S=some (.tup [x,y],S')∧Cut k i S n P (ts.take p) (ts.drop p) h x y xh yh new S'
 | 0,_,_,_,_,_,_,_,_,_,_,_,_,hf=>absurd hf (Nat.not_lt_zero _)
 | f + 1,d,ts,h,p,n,S,P,hw,m,hl,hp,al,hf=>by
   by_cases h0:p=0
   · subst h0
     exact ⟨.non,d,0,h,[],S,b_rt rfl (zbz (zbr (b_of (e_2 (e_v rfl) e_k (eq_T rfl))) (zax (zey (a_c e_k (a_c (e_v rfl) a_n)) (Nat.le_of_ble_eq_true rfl))))),Wt.nil hw,.non,m,Nat.zero_le _,Nat.le_refl _,.non,al.old,Nat.zero_le _⟩
   · have c0:=zbm m S
     have e0:opEq (.int p) (.int 0)=some (.bl false):=eq_F (y:=0) h0
     by_cases h9:p=ts.length
     · subst h9
       exact ⟨d,.non,h,0,[],S,b_rt rfl (zah (zaq (b_of (e_2 (e_v rfl) e_k e0))) (zbz (zbr (b_of (e_2 (e_v rfl) (zaf (a_c (e_v rfl) a_n) c0) (eq_T rfl))) (zax (zey (a_c (e_v rfl) (a_c e_k a_n)) (Nat.le_of_ble_eq_true rfl)))))),Wt.nil hw,by rw [List.take_length];exact m,by rw [List.drop_length];exact .non,Nat.le_refl _,Nat.zero_le _,al.old,.non,Nat.zero_le _⟩
     · have h40:=h15 m hl
       obtain ⟨x,v,y,xt,yt,xh,yh,w1,S1,c1,q⟩:=parts_r m (mk_pos m (List.length_pos_iff.mp (by omega))) hw al
       have e1:=q.hts
       subst e1
       have c2:=zbm q.mx S1
       have hx:=q.hh.l
       have hy:=q.hh.r
       have hl':=hl
       have hp':=hp
       simp only [List.length_append,List.length_cons] at hl' hp'
       by_cases h1:p≤xt.length
       · obtain ⟨a,b,ah,bh,w2,S2,c3,u⟩:=cut_ahead_ok f q.wt.at_ q.mx (by omega) h1 q.ax (by omega)
         have wt2:=q.wt.two u.wt
         obtain ⟨c,j1,j2,j3,j4⟩:=ct1 q.hh q.h1 u.hy (by omega)
         obtain ⟨d2,g2,w3,S3,c4,r3,b5,b6,b7⟩:=joined_ok 40 c wt2.at_ u.my q.my q.ht (by rw [List.length_drop];omega) u.ay.two q.ay.app j2 j3 j1
         have r3:=r3.after wt2
         have fw:=j4 _ ah _ _ _ b5 b6 q.few u.few b7
         refine ⟨a,d2,ah,g2,_,S3,b_rt rfl (zah (zaq (b_of (e_2 (e_v rfl) e_k e0))) (zah (zaq (b_of (e_2 (e_v rfl) (zaf (a_c (e_v rfl) a_n) c0) (eq_F h9)))) (zah (zal (zaf (a_c (e_v rfl) (a_c (e_v rfl) a_n)) c1)) (zah (zal (zaf (a_c (e_2s (e_v rfl) e_k rfl) a_n) c2)) (zbz (zbr (b_of (e_2 (e_v rfl) (e_v rfl) (le_T h1))) (zah (zal (zaf (a_c (e_v rfl) (a_c (e_2s (e_v rfl) e_k rfl) (a_c (e_v rfl) a_n))) c3)) (zax (zey (a_c (e_2s (e_v rfl) e_k rfl) (a_c (zaf (a_c (e_v rfl) (a_c (e_2s (e_v rfl) e_k rfl) (a_c (e_2s (e_v rfl) e_k rfl) (a_c (e_2s (e_v rfl) e_k rfl) a_n)))) c4) a_n)) (Nat.le_of_ble_eq_true rfl)))))))))),⟨r3.wt,by rw [take_l h1];exact u.mx,by rw [drop_l h1];exact r3.mm,Nat.le_trans u.hx (Nat.le_of_lt hx),hi_le b5 (Nat.lt_of_le_of_lt u.hy hx) hy,u.ax.two.app,r3.all,by rw [List.length_append,List.length_append];exact fw⟩⟩
       · obtain ⟨z,e⟩:∃z,p=xt.length + 1 + z:=⟨p - xt.length - 1,by omega⟩
         obtain ⟨a,b,ah,bh,w2,S2,c3,u⟩:=cut_ahead_ok f (p:=z) q.wt.at_ q.my (by omega) (by omega) q.ay (by omega)
         have wt2:=q.wt.two u.wt
         obtain ⟨c,j1,j2,j3,j4⟩:=ct1 q.hh.sym q.h2 u.hx (by omega)
         obtain ⟨d2,g2,w3,S3,c4,r3,b5,b6,b7⟩:=joined_ok 40 c wt2.at_ q.mx u.mx q.ht (by rw [List.length_take];omega) q.ax.app u.ax.two j3 j2 j1
         have r3:=r3.after wt2
         have fw:=j4 _ bh _ _ _ b5.sym (fun u v=>(b6 v u).sym) q.few (by have:=u.few;rwa [Nat.add_comm ah bh] at this) b7
         rw [Nat.add_comm bh] at fw
         refine ⟨d2,b,g2,bh,_,S3,b_rt rfl (zah (zaq (b_of (e_2 (e_v rfl) e_k e0))) (zah (zaq (b_of (e_2 (e_v rfl) (zaf (a_c (e_v rfl) a_n) c0) (eq_F h9)))) (zah (zal (zaf (a_c (e_v rfl) (a_c (e_v rfl) a_n)) c1)) (zah (zal (zaf (a_c (e_2s (e_v rfl) e_k rfl) a_n) c2)) (zah (zaq (b_of (e_2 (e_v rfl) (e_v rfl) (le_F h1)))) (zah (zal (zaf (a_c (e_v rfl) (a_c (e_2s (e_v rfl) e_k rfl) (a_c (e_sub2 (e_v rfl) (e_v rfl) e) a_n))) c3)) (zax (zey (a_c (zaf (a_c (e_v rfl) (a_c (e_2s (e_v rfl) e_k rfl) (a_c (e_2s (e_v rfl) e_k rfl) (a_c (e_2s (e_v rfl) e_k rfl) a_n)))) c4) (a_c (e_2s (e_v rfl) e_k rfl) a_n)) (Nat.le_of_ble_eq_true rfl))))))))),⟨r3.wt,by rw [e,take_r];exact r3.mm,by rw [e,drop_r];exact u.my,hi_le b5 hx (Nat.lt_of_le_of_lt u.hx hy),Nat.le_trans u.hy (Nat.le_of_lt hy),r3.all,u.ay.two.app,by rw [List.length_append,List.length_append];exact fw⟩⟩
theorem chain3 {s e m:Nat}{f g w z:E} (hs:s≤e) (he:e≤m) (h0:f ev S=some (.int (0:Nat),S)) (h1:g ev S=some (.int s,S)) (h2:w ev S=some (.int e,S)) (h3:z ev S=some (.int m,S)):eChain3 opLe opLe opLe f g w z ev S=some (.bl true,S):=by
 simp only [eChain3,h0,h1,h2,h3,Option.bind_some,le_T (Nat.zero_le s),le_T hs,le_T he,Option.map_some]
theorem stretch_ok {s e:Nat} (m:Mk k d ts h) (hs:s≤e) (he:e≤ts.length) (S:Sto):zdj [d,.int s,.int e] S=some (.non,S) :=
 b_nx rfl (zaq (b_nT (b_of (chain3 hs he e_k (e_v rfl) (e_v rfl) (zaf (a_c (e_v rfl) a_n) (zbm m S))))))
def turn (s e:Nat) (ts:List D):List D:=ts.take s++((ts.take e).drop s).reverse++ts.drop e
theorem turn_len {s e:Nat} (hs:s≤e) (he:e≤ts.length):(turn s e ts).length=ts.length:=by
 simp only [turn,List.length_append,List.length_reverse,List.length_drop,List.length_take];omega
theorem laid_t (hw:S[i]? = some (wd (addv k) n)) (ml:Mk k l lt lh) (mr:Mk k r rt rh) (hn:lt.length + rt.length≤2000) (al:All P l) (ar:All P r):∃d h new S',zcm [.obj i,l,r] S=some (d,S')∧Res k i S n P (lt++rt) d h new S'∧new.length≤9 * rh + 9 * max lh rh + 10:=by
 have h1:=h15 mr (by omega)
 obtain ⟨d,h,new,S1,c,r,_,b⟩:=laid_ok (f:=40) (c:=max lh rh) hw ml mr hn al ar (by omega) (by omega) (by omega)
 exact ⟨d,h,new,S1,c,r,b⟩
theorem turned_part_ok {s e:Nat} (hw:S[i]? = some (wd (addv k) n)) (m:Mk k d ts h) (hl:ts.length≤2000) (hs:s≤e) (he:e≤ts.length) (al:All P d):∃d' h' new S',zdm [.obj i,d,.int s,.int e] S=some (d',S')∧Res k i S n P (turn s e ts) d' h' new S':=by
 have h1:=h15 m hl
 obtain ⟨x,y,xh,yh,w1,S1,c1,u⟩:=cut_ahead_ok 40 hw m hl he al (by omega)
 have hx:=u.hx
 obtain ⟨x',y',xh',yh',w2,S2,c2,u'⟩:=cut_ahead_ok 40 (p:=s) u.wt.at_ u.mx (by rw [List.length_take];omega) (by rw [List.length_take];omega) u.ax (by omega)
 have wt2:=u.wt.two u'.wt
 obtain ⟨d3,w3,S3,c3,r3,_⟩:=turned_r u'.my wt2.at_ u'.ay.two
 have r3:=r3.after wt2
 obtain ⟨d4,h4,w4,S4,c4,r4,_⟩:=laid_t r3.wt.at_ u'.mx r3.mm (by simp only [List.length_reverse,List.length_drop,List.length_take];omega) u'.ax.two.app r3.all
 have r4:=r4.after r3.wt
 obtain ⟨d5,h5,w5,S5,c5,r5,_⟩:=laid_t r4.wt.at_ r4.mm u.my (by simp only [List.length_append,List.length_reverse,List.length_drop,List.length_take];omega) r4.all u.ay.app.app.app
 have r5:=r5.after r4.wt
 have es:(ts.take e).take s=ts.take s:=by rw [List.take_take,Nat.min_eq_left hs]
 rw [es] at r5
 exact ⟨d5,h5,_,S5,b_rt rfl (zah (zdb (zaf (a_c (e_v rfl) (a_c (e_v rfl) (a_c (e_v rfl) a_n))) (stretch_ok m hs he S))) (zah (zal (zaf (a_c (e_v rfl) (a_c (e_v rfl) (a_c (e_v rfl) a_n))) c1)) (zah (zal (zaf (a_c (e_v rfl) (a_c (e_2s (e_v rfl) e_k rfl) (a_c (e_v rfl) a_n))) c2)) (zah (zal (zaf (a_c (e_v rfl) (a_c (e_2s (e_v rfl) e_k rfl) (a_c (zcz (e_v rfl) (zcd wt2.at_) (wl_turned _ _) (a_c (e_2s (e_v rfl) e_k rfl) a_n) c3) a_n))) c4)) (zax (zaf (a_c (e_v rfl) (a_c (e_v rfl) (a_c (e_2s (e_v rfl) e_k rfl) a_n))) c5)))))),r5⟩
end Pg
set_option maxHeartbeats 4000000
namespace Pg
open PySem L2 F Mt
variable {k:Nat} [Kd k] {d l r t x y:D}{ts lt rt:List D}{h lh rh i:Nat}{n:Int}{S S0 S1:Sto}{ev e:Ev}{P Q:D→Prop}{a b new:List D}
theorem p1 {xh yh h g:Nat} (p:Top xh yh h) (q1:xh≤yh + 1) (q2:yh≤xh + 1) (g1:xh≤g) (g2:g≤xh + 1):(g≤yh + 2∧yh≤g + 2)∧∀z,Hi g yh z→(g≤yh + 1→yh≤g + 1→Top g yh z)→h≤z∧z≤h + 1:=by
 obtain ⟨p1,p2,p3⟩:=p
 refine ⟨⟨by omega,by omega⟩,fun z hz ht=>?_⟩
 by_cases hb:g≤yh + 1∧yh≤g + 1
 · obtain ⟨t1,t2,t3⟩:=ht hb.1 hb.2
   omega
 · have:=hz.l
   have:=hz.m g (Nat.le_refl _) (by omega)
   omega
theorem put_l {p:Nat} (h:p≤a.length):(a++t::b).take p++x::(a++t::b).drop p=(a.take p++x::a.drop p)++t::b:=by rw [take_l h,drop_l h];simp
theorem put_r {q:Nat}:(a++t::b).take (a.length + 1 + q)++x::(a++t::b).drop (a.length + 1 + q)=a++t::(b.take q++x::b.drop q):=by rw [take_r,drop_r];simp
theorem put_len (p:Nat):(ts.take p++x::ts.drop p).length=ts.length + 1:=by simp only [List.length_append,List.length_cons,List.length_take,List.length_drop];omega
theorem put_in_ok:∀(f:Nat) {d:D}{ts:List D}{h p:Nat}{n:Int}{S:Sto}{P:D→Prop},S[i]? = some (wd (addv k) n)→Mk k d ts h→ts.length < 2000→p≤ts.length→Thing k x→All P d→h < f →
   ∃d' h' new S',g_put_in f [.obj i,d,.int p,x] S=some (d',S')∧Res k i S n P (ts.take p++x::ts.drop p) d' h' new S'∧(h≤h'∧h'≤h + 1)∧new.length≤9 * h + 1
 | 0,_,_,_,_,_,_,_,_,_,_,_,_,_,hf=>absurd hf (Nat.not_lt_zero _)
 | f + 1,d,ts,h,p,n,S,P,hw,m,hl,hp,ht,al,hf=>by
   rcases tup_or m with ⟨rfl,rfl,rfl⟩ | ⟨⟨xs,ed⟩,u0,r0,e0⟩
   · obtain ⟨d1,S1,g1,c1,r1,t1⟩:=zfj hw (.non (k:=k)) (.non (k:=k)) ht (Nat.le_succ 0) (Nat.le_succ 0) (by decide) (All.non (P:=P)) .non
     have e:g1=1:=by have:=t1.e;omega
     subst e
     exact ⟨d1,1,_,S1,b_rt rfl (zbz (zbr (b_of (e_2 (e_v rfl) e_k rfl)) (zax (zcz (e_v rfl) (zcd hw) (zdv _ _) (a_c e_k (a_c (e_v rfl) (a_c e_k a_n))) c1)))),by simpa using r1,⟨Nat.zero_le _,Nat.le_refl _⟩,Nat.le_refl _⟩
   · obtain ⟨z,v,y,xt,yt,xh,yh,w1,S1,c1,q⟩:=parts_r m (mk_pos m (by rw [e0];simp)) hw al
     have e1:=q.hts
     subst e1
     have c2:=zbm q.mx S1
     have hx:=q.hh.l
     have hy:=q.hh.r
     have hi:opIs d .non=some (.bl false):=by rw [ed];rfl
     simp only [List.length_append,List.length_cons] at hl hp
     by_cases h1:p≤xt.length
     · obtain ⟨d1,g,w2,S2,c3,r2,⟨b1,b2⟩,b3⟩:=put_in_ok f q.wt.at_ q.mx (by omega) h1 ht q.ax (by omega)
       have r2:=r2.after q.wt
       obtain ⟨⟨k1,k2⟩,k3⟩:=p1 q.hh q.h1 q.h2 b1 b2
       obtain ⟨d2,g2,w3,S3,c4,r3,b5,b6,b7⟩:=zet r2.wt.at_ r2.mm q.my q.ht k1 k2 (by rw [put_len];omega) r2.all q.ay.app
       have r3:=r3.after r2.wt
       exact ⟨d2,g2,_,S3,b_rt rfl (zah (zaq (b_of (e_2 (e_v rfl) e_k hi))) (zah (zal (zaf (a_c (e_v rfl) (a_c (e_v rfl) a_n)) c1)) (zah (zal (zaf (a_c (e_2s (e_v rfl) e_k rfl) a_n) c2)) (zbz (zbr (b_of (e_2 (e_v rfl) (e_v rfl) (le_T h1))) (zax (zaf (a_c (e_v rfl) (a_c (zaf (a_c (e_v rfl) (a_c (e_2s (e_v rfl) e_k rfl) (a_c (e_v rfl) (a_c (e_v rfl) a_n)))) c3) (a_c (e_2s (e_v rfl) e_k rfl) (a_c (e_2s (e_v rfl) e_k rfl) a_n)))) c4))))))),by rw [put_l h1];exact r3,k3 _ b5 b6,few_o q.hh q.few b3 b7⟩
     · obtain ⟨z',e⟩:∃z,p=xt.length + 1 + z:=⟨p - xt.length - 1,by omega⟩
       obtain ⟨d1,g,w2,S2,c3,r2,⟨b1,b2⟩,b3⟩:=put_in_ok f (p:=z') q.wt.at_ q.my (by omega) (by omega) ht q.ay (by omega)
       have r2:=r2.after q.wt
       obtain ⟨⟨k1,k2⟩,k3⟩:=p1 q.hh.sym q.h2 q.h1 b1 b2
       obtain ⟨d2,g2,w3,S3,c4,r3,b5,b6,b7⟩:=zet r2.wt.at_ q.mx r2.mm q.ht k2 k1 (by rw [put_len];omega) q.ax.app r2.all
       have r3:=r3.after r2.wt
       exact ⟨d2,g2,_,S3,b_rt rfl (zah (zaq (b_of (e_2 (e_v rfl) e_k hi))) (zah (zal (zaf (a_c (e_v rfl) (a_c (e_v rfl) a_n)) c1)) (zah (zal (zaf (a_c (e_2s (e_v rfl) e_k rfl) a_n) c2)) (zah (zaq (b_of (e_2 (e_v rfl) (e_v rfl) (le_F h1)))) (zax (zaf (a_c (e_v rfl) (a_c (e_2s (e_v rfl) e_k rfl) (a_c (e_2s (e_v rfl) e_k rfl) (a_c (zaf (a_c (e_v rfl) (a_c (e_2s (e_v rfl) e_k rfl) (a_c (e_sub2 (e_v rfl) (e_v rfl) e) (a_c (e_v rfl) a_n)))) c3) a_n)))) c4)))))),by rw [e,put_r];exact r3,k3 _ b5.sym fun u v=>(b6 v u).sym,few_o' q.hh q.few b3 b7⟩
theorem Top.eq {a b h h':Nat} (p:Top a b h) (q:Top a b h'):h'=h:=by
 obtain ⟨p1,p2,p3⟩:=p
 obtain ⟨q1,q2,q3⟩:=q
 omega
theorem set_l {p:Nat} (h:p < a.length):(a++t::b).set p x=a.set p x++t::b:=List.set_append_left _ _ h
theorem set_m:(a++t::b).set a.length x=a++x::b:=by rw [List.set_append_right _ _ (Nat.le_refl _),Nat.sub_self];rfl
theorem set_r {q:Nat}:(a++t::b).set (a.length + 1 + q) x=a++t::b.set q x:=by rw [List.set_append_right _ _ (by omega),show a.length + 1 + q - a.length=q + 1 by omega];rfl
theorem few_g {a b:List D}{xh yh h:Nat} (p:Top xh yh h) (h1:a.length≤2) (h2:b.length≤3 * xh):(a++b++[t]).length≤3 * h:=by
 have:=p.l
 simp only [List.length_append,List.length_cons,List.length_nil];omega
theorem few_g0 {a:List D}{h:Nat} (hh:0 < h) (h1:a.length≤2):(a++[t]).length≤3 * h:=by
 simp only [List.length_append,List.length_cons,List.length_nil];omega
theorem given_ok:∀(f:Nat) {d:D}{ts:List D}{h p:Nat}{n:Int}{S:Sto}{P:D→Prop},S[i]? = some (wd (addv k) n)→Mk k d ts h→ts.length≤2000→p < ts.length→Thing k x→All P d→h≤f →
   ∃d' new S',g_given f [.obj i,d,.int p,x] S=some (d',S')∧Res k i S n P (ts.set p x) d' h new S'∧new.length≤3 * h
 | 0,d,ts,h,p,n,S,P,hw,m,hl,hp,ht,al,hf=>absurd (mk_pos m (List.length_pos_iff.mp (by omega))) (Nat.not_lt.mpr hf)
 | f + 1,d,ts,h,p,n,S,P,hw,m,hl,hp,ht,al,hf=>by
   have h0:=mk_pos m (List.length_pos_iff.mp (by omega))
   obtain ⟨z,v,y,xt,yt,xh,yh,w1,S1,c1,q⟩:=parts_r m h0 hw al
   have e1:=q.hts
   subst e1
   have c2:=zbm q.mx S1
   have hx:=q.hh.l
   have hy:=q.hh.r
   simp only [List.length_append,List.length_cons] at hl hp
   by_cases h1:p < xt.length
   · obtain ⟨d1,w2,S2,c3,r2,b3⟩:=given_ok f q.wt.at_ q.mx (by omega) h1 ht q.ax (by omega)
     have r2:=r2.after q.wt
     obtain ⟨d2,S3,g2,c4,r3,t3⟩:=zfj r2.wt.at_ r2.mm q.my q.ht q.h1 q.h2 (by rw [List.length_set];omega) r2.all q.ay.app
     have r3:=r3.after r2.wt
     have eg:=q.hh.eq t3
     subst eg
     exact ⟨d2,_,S3,b_rt rfl (zah (zal (zaf (a_c (e_v rfl) (a_c (e_v rfl) a_n)) c1)) (zah (zal (zaf (a_c (e_2s (e_v rfl) e_k rfl) a_n) c2)) (zbz (zbr (b_of (e_2 (e_v rfl) (e_v rfl) (lt_T h1))) (zax (zcz (e_v rfl) (zcd q.wt.at_) (zdv _ _) (a_c (zaf (a_c (e_v rfl) (a_c (e_2s (e_v rfl) e_k rfl) (a_c (e_v rfl) (a_c (e_v rfl) a_n)))) c3) (a_c (e_2s (e_v rfl) e_k rfl) (a_c (e_2s (e_v rfl) e_k rfl) a_n))) c4)))))),by rw [set_l h1];exact r3,few_g q.hh q.few b3⟩
   · by_cases h2:xt.length < p
     · obtain ⟨z',e⟩:∃z,p=xt.length + 1 + z:=⟨p - xt.length - 1,by omega⟩
       obtain ⟨d1,w2,S2,c3,r2,b3⟩:=given_ok f (p:=z') q.wt.at_ q.my (by omega) (by omega) ht q.ay (by omega)
       have r2:=r2.after q.wt
       obtain ⟨d2,S3,g2,c4,r3,t3⟩:=zfj r2.wt.at_ q.mx r2.mm q.ht q.h1 q.h2 (by rw [List.length_set];omega) q.ax.app r2.all
       have r3:=r3.after r2.wt
       have eg:=q.hh.eq t3
       subst eg
       exact ⟨d2,_,S3,b_rt rfl (zah (zal (zaf (a_c (e_v rfl) (a_c (e_v rfl) a_n)) c1)) (zah (zal (zaf (a_c (e_2s (e_v rfl) e_k rfl) a_n) c2)) (zah (zaq (b_of (e_2 (e_v rfl) (e_v rfl) (lt_F h1)))) (zbz (zbr (b_of (e_2 (e_v rfl) (e_v rfl) (gt_T h2))) (zax (zcz (e_v rfl) (zcd q.wt.at_) (zdv _ _) (a_c (e_2s (e_v rfl) e_k rfl) (a_c (e_2s (e_v rfl) e_k rfl) (a_c (zaf (a_c (e_v rfl) (a_c (e_2s (e_v rfl) e_k rfl) (a_c (e_sub2 (e_v rfl) (e_v rfl) e) (a_c (e_v rfl) a_n)))) c3) a_n))) c4))))))),by rw [e,set_r];exact r3,few_g q.hh.sym q.few b3⟩
     · have e:p=xt.length:=by omega
       obtain ⟨d2,S3,g2,c4,r3,t3⟩:=zfj q.wt.at_ q.mx q.my ht q.h1 q.h2 (by omega) q.ax q.ay
       have r3:=r3.after q.wt
       have eg:=q.hh.eq t3
       subst eg
       exact ⟨d2,_,S3,b_rt rfl (zah (zal (zaf (a_c (e_v rfl) (a_c (e_v rfl) a_n)) c1)) (zah (zal (zaf (a_c (e_2s (e_v rfl) e_k rfl) a_n) c2)) (zah (zaq (b_of (e_2 (e_v rfl) (e_v rfl) (lt_F h1)))) (zah (zaq (b_of (e_2 (e_v rfl) (e_v rfl) (gt_F h2)))) (zax (zcz (e_v rfl) (zcd q.wt.at_) (zdv _ _) (a_c (e_2s (e_v rfl) e_k rfl) (a_c (e_v rfl) (a_c (e_2s (e_v rfl) e_k rfl) a_n))) c4)))))),by rw [e,set_m];exact r3,few_g0 h0 q.few⟩
theorem chain2 {p m:Nat}{f g w:E} (hp:p < m) (h0:f ev S=some (.int (0:Nat),S)) (h1:g ev S=some (.int p,S)) (h2:w ev S=some (.int m,S)):eChain opLe opLt f g w ev S=some (.bl true,S):=by
 simp only [eChain,h0,h1,h2,Option.bind_some,le_T (Nat.zero_le p),lt_T hp,Option.map_some]
theorem place_ok {p m:Nat} (hp:p < m) (S:Sto):zay [.int p,.int m] S=some (.non,S):=b_nx rfl (zaq (b_nT (b_of (chain2 hp e_k (e_v rfl) (e_v rfl)))))
theorem at_ok {p:Nat} (m:Mk k d ts h) (hl:ts.length≤2000) (hp:ts[p]? = some x) (S:Sto):g_at [d,.int p] S=some (x,S) :=
 b_rt rfl (zah (zdb (zaf (a_c (e_v rfl) (a_c (zaf (a_c (e_v rfl) a_n) (zbm m S)) a_n)) (place_ok (List.getElem?_eq_some_iff.mp hp).1 S))) (zax (zaf (a_c (e_v rfl) (a_c e_k (a_c (e_v rfl) a_n))) (thing_at_ok 40 (b:=false) m (Nat.le_trans (h15 m hl) (by decide)) hp S))))
theorem add1 (x:Nat):zbc (.int x) (.int 1)=some (.int (x + 1:Nat)):=rfl
theorem put_ok {p:Nat} (hw:S[i]? = some (wd (addv k) n)) (m:Mk k d ts h) (hl:ts.length < 2000) (hp:p≤ts.length) (ht:Thing k x) (al:All P d) :
   ∃d' h' new S',g_put [.obj i,d,.int p,x] S=some (d',S')∧Res k i S n P (ts.take p++x::ts.drop p) d' h' new S'∧new.length≤9 * h + 1:=by
 have h1:=h15 m (Nat.le_of_lt hl)
 obtain ⟨d',h',new,S1,c,r,_,b⟩:=put_in_ok 40 hw m hl hp ht al (by omega)
 exact ⟨d',h',new,S1,b_rt rfl (zah (zdb (zaf (a_c (e_v rfl) (a_c (e_2 (zaf (a_c (e_v rfl) a_n) (zbm m S)) e_k (add1 _)) a_n)) (place_ok (Nat.lt_succ_of_le hp) S))) (zah (zdb (zaf (a_c (e_2 (zaf (a_c (e_v rfl) a_n) (zbm m S)) e_k (add1 _)) a_n) (room_ok hl S))) (zax (zaf (a_c (e_v rfl) (a_c (e_v rfl) (a_c (e_v rfl) (a_c (e_v rfl) a_n)))) c)))),r,b⟩
theorem out_ok {p:Nat} (hw:S[i]? = some (wd (addv k) n)) (m:Mk k d ts h) (hl:ts.length≤2000) (hp:p < ts.length) (al:All P d) :
   ∃d' h' new S',g_out [.obj i,d,.int p] S=some (d',S')∧Res k i S n P (ts.eraseIdx p) d' h' new S'∧new.length≤9 * h + 21:=by
 have h1:=h15 m hl
 obtain ⟨d',h',new,S1,c,r,_,b⟩:=taken_out_ok 40 hw m hl hp al (by omega)
 exact ⟨d',h',new,S1,b_rt rfl (zah (zdb (zaf (a_c (e_v rfl) (a_c (zaf (a_c (e_v rfl) a_n) (zbm m S)) a_n)) (place_ok hp S))) (zax (zaf (a_c (e_v rfl) (a_c (e_v rfl) (a_c (e_v rfl) a_n))) c))),r,b⟩
theorem swapped_ok {p:Nat} (hw:S[i]? = some (wd (addv k) n)) (m:Mk k d ts h) (hl:ts.length≤2000) (hp:p < ts.length) (ht:Thing k x) (al:All P d) :
   ∃d' new S',g_swapped [.obj i,d,.int p,x] S=some (d',S')∧Res k i S n P (ts.set p x) d' h new S'∧new.length≤3 * h:=by
 have h1:=h15 m hl
 obtain ⟨d',new,S1,c,r,b⟩:=given_ok 40 hw m hl hp ht al (by omega)
 exact ⟨d',new,S1,b_rt rfl (zah (zdb (zaf (a_c (e_v rfl) (a_c (zaf (a_c (e_v rfl) a_n) (zbm m S)) a_n)) (place_ok hp S))) (zax (zaf (a_c (e_v rfl) (a_c (e_v rfl) (a_c (e_v rfl) (a_c (e_v rfl) a_n)))) c))),r,b⟩
theorem laid_fn_ok (hw:S[i]? = some (wd (addv k) n)) (ml:Mk k l lt lh) (mr:Mk k r rt rh) (hn:lt.length + rt.length≤2000) (al:All P l) (ar:All P r):∃d h new S',g_laid [.obj i,l,r] S=some (d,S')∧Res k i S n P (lt++rt) d h new S'∧new.length≤9 * rh + 9 * max lh rh + 10:=by
 obtain ⟨d,h,new,S1,c,r,b⟩:=laid_t hw ml mr hn al ar
 exact ⟨d,h,new,S1,b_rt rfl (zah (zdb (zaf (a_c (e_2 (zaf (a_c (e_v rfl) a_n) (zbm ml S)) (zaf (a_c (e_v rfl) a_n) (zbm mr S)) (add_int _ _)) a_n) (room_ok hn S))) (zax (zaf (a_c (e_v rfl) (a_c (e_v rfl) (a_c (e_v rfl) a_n))) c))),r,b⟩
theorem st_append {q j:Nat}{v:E}{us:List D} (he:ev[q]? = some (some (.obj j))) (hj:S[j]? = some (.lst us)) (hv:v ev S=some (x,S)) (hl:us.length < 16777216):zeh (eV q) v ev S=some (.nx ev,S.set j (.lst (us++[x]))):=by
 have hz:sizeLine=16777216:=sizeLine_eq
 simp only [zeh,e_v he,Option.bind_some,hj,hv,hz,if_pos hl]
theorem gather_ok:∀(f:Nat) {d:D}{ts:List D}{h j:Nat}{b:Bool}{acc:List D}{S:Sto},Mk k d ts h→h < f→S[j]? = some (.lst acc)→acc.length + ts.length < 16777216→g_gather f [d,.bl b,.obj j] S=some (.non,S.set j (.lst (acc++ord b ts)))
 | 0,_,_,_,_,_,_,_,_,hf,_,_=>absurd hf (Nat.not_lt_zero _)
 | f + 1,d,ts,h,j,b,acc,S,m,hf,hj,hl=>by
   rcases tup_or m with ⟨rfl,rfl,rfl⟩ | ⟨⟨xs,ed⟩,u0,r0,e0⟩
   · rw [show ord b ([]:List D)=[] by cases b <;> rfl,List.append_nil]
     have:S.set j (.lst acc)=S:=by
       obtain ⟨hj',ej⟩:=List.getElem?_eq_some_iff.mp hj
       rw [← ej];exact List.set_getElem_self hj'
     rw [this]
     exact b_rt rfl (zbz (zbr (b_of (e_2 (e_v rfl) e_k rfl)) rfl))
   · obtain ⟨u,t,y,c,xt,yt,xh,yh,c1,s⟩:=seen_ok m (mk_pos m (by rw [e0];simp)) b S
     have hi:opIs d .non=some (.bl false):=by rw [ed];rfl
     have hu:=s.hu
     have hlen:ts.length=xt.length + (yt.length + 1):=by
       have:=congrArg List.length hu
       rw [ord_len,List.length_append,List.length_cons,ord_len,ord_len] at this
       exact this
     have hx:=s.hx
     have hy:=s.hy
     have lx:=ord_len c xt
     have ly:=ord_len c yt
     have c2:=gather_ok f (b:=c) (S:=S) s.mx (by omega) hj (by omega)
     have j2:(S.set j (.lst (acc++ord c xt)))[j]? = some (.lst (acc++ord c xt)):=set_at hj
     have j3:((S.set j (.lst (acc++ord c xt))).set j (.lst (acc++ord c xt++[t])))[j]? = some (.lst (acc++ord c xt++[t])):=set_at j2
     have c3:=gather_ok f (b:=c) s.my (by omega) j3 (by simp only [List.length_append,List.length_cons,List.length_nil];omega)
     have e5:((S.set j (.lst (acc++ord c xt))).set j (.lst (acc++ord c xt++[t]))).set j (.lst (acc++ord c xt++[t]++ord c yt))=S.set j (.lst (acc++ord b ts)):=by rw [List.set_set,List.set_set,show acc++ord c xt++[t]++ord c yt=acc++ord b ts by rw [hu];simp]
     rw [e5] at c3
     exact b_nx rfl (zah (zaq (b_of (e_2 (e_v rfl) e_k hi))) (zah (zal (zaf (a_c (e_v rfl) (a_c (e_v rfl) a_n)) c1)) (zah (zdb (zaf (a_c (e_2s (e_v rfl) e_k rfl) (a_c (e_2s (e_v rfl) e_k rfl) (a_c (e_v rfl) a_n))) c2)) (zah (st_append rfl j2 (e_2s (e_v rfl) e_k rfl) (by simp only [List.length_append];omega)) (zdb (zaf (a_c (e_2s (e_v rfl) e_k rfl) (a_c (e_2s (e_v rfl) e_k rfl) (a_c (e_v rfl) a_n))) c3))))))
def SB (S:Sto):Prop:=∀m∈S,bndM S.length m=true
theorem bnd_thing {m:Nat} (hx:Thing k x):bnd m x=true:=by
 cases sv_thing hx with
 | non=>rfl
 | int i=>rfl
 | str z=>rfl
 | pair a b=>rfl
theorem bndL_things {m:Nat}:∀{ts:List D},(∀x∈ts,Thing k x)→bndL m ts=true
 | [],_=>rfl
 | t::ts,h=>by
   unfold bndL
   rw [bnd_thing (h t (List.mem_cons_self ..)),bndL_things fun x hx=>h x (List.mem_cons_of_mem _ hx)];rfl
theorem wd_bnd (m:Nat) (n:Int):bndM m (wd (addv k) n)=true:=by
 unfold wd bndM addv
 by_cases hk:k=0
 · simp [hk,bndL,bnd]
 · simp [hk,bndL,bnd]
theorem sb_one (n:Int):SB [wd (addv k) n]:=fun m hm=>by rw [List.mem_singleton.mp hm];exact wd_bnd _ _
theorem things_of_ok (m:Mk k d ts h) (hl:ts.length≤2000) (hb:SB S):zfb [d] S=some (.lst ts,S):=by
 have h1:=h15 m hl
 have c1:=gather_ok 40 (b:=false) (S:=S++[.lst []]) (j:=S.length) (acc:=[]) m (by omega) (last_at S _) (by simp only [List.length_nil];omega)
 have e1:(S++[MO.lst []]).set S.length (.lst ([]++ord false ts))=S++[.lst ts]:=by simp [ord]
 rw [e1] at c1
 have c2:zbe 2 1 c_things_of [d] S=some (.obj S.length,S++[.lst ts]):=b_rt rfl (zah (zal (e_newL a_n (Nat.zero_le _))) (zah (zdb (zaf (a_c (e_v rfl) (a_c e_k (a_c (e_v rfl) a_n))) c1)) (zax (e_v rfl))))
 have e2:(S++[MO.lst ts]).take S.length=S:=List.take_left
 have e3:S.all (bndM S.length)=true:=List.all_eq_true.mpr hb
 unfold zfb frz
 rw [c2]
 simp only [Option.bind_some,e2,e3,if_true,Nat.lt_irrefl,if_false,last_at,bndL_things m.things]
end Pg
set_option maxHeartbeats 4000000
namespace Pg
open PySem L2 F Mt
variable {k:Nat}{d l r t:D}{ts lt rt:List D}{h lh rh:Nat}{S S1 S2:Sto}{ev e:Ev}
theorem r_if_t {u:B}{a b:R} (h:u ev S=some (true,S1)):rIf u a b ev S=a ev S1:=by simp [rIf,h]
theorem zdw {u:B}{a b:R} (h:u ev S=some (false,S1)):rIf u a b ev S=b ev S1:=by simp [rIf,h]
theorem r_seq {c:C}{q:R} (h:c ev S=some (.nx e,S1)):rSeq c q ev S=q e S1:=by simp [rSeq,h]
theorem r_orL {a b:R}{x:Str×Sto} (h:a ev S=some x):rOr a b ev S=some x:=by simp [rOr,h]
theorem r_orR {a b:R} (h:a ev S=none):rOr a b ev S=b ev S:=by simp [rOr,h]
theorem zfi {g:GR}{a:As}{ds:List D} (h:a ev S=some (ds,S1)):rCall g a ev S=g ds S1:=by simp [rCall,h]
theorem r_meth {c m:Str}{g:GR}{f:E}{a:As}{i:Nat}{fs:List (Str×D)}{ds:List D} (h:f ev S=some (.obj i,S1)) (hi:zfp c S1 (.obj i)=some (i,fs)) (hm:fs.lookup m=none) (ha:a ev S1=some (ds,S2)):rMeth c m g f a ev S=g (.obj i::ds) S2:=by
 simp [rMeth,h,hi,hm,ha]
theorem r_raise {c:Str}{a:As}{ds:List D} (h:a ev S=some (ds,S1)) (hl:ds.length≤16777216):rRaise c a ev S=some (c,S1):=by
 have hz:sizeLine=16777216:=sizeLine_eq
 simp [rRaise,h,hz,hl]
theorem zdk {N n:Nat}{q:R}{ds:List D} (hl:ds.length=n):zfd N n q ds S=q (ds.map some++List.replicate (N - ds.length) none) S:=by simp [zfd,hl]
theorem fit_of:∀(ys:List Str) (out:Str),out.length + (ys.map (·.length)).sum≤sizeLine→fitS ys out=true
 | [],out,h=>by simp only [fitS];exact decide_eq_true (by simpa using h)
 | y::ys,out,h=>by
   rw [List.map_cons,List.sum_cons] at h
   simp only [fitS,Bool.and_eq_true,decide_eq_true_eq]
   exact ⟨by rw [Mt.str_len];omega,fit_of ys (out++y) (by rw [Mt.str_len];omega)⟩
theorem e_fmt {g:As}{ds:List D}{ys:List Str} (h:g ev S=some (ds,S1)) (q:strsOf ds=some ys) (hl:(ys.map (·.length)).sum≤16777216):eFmt g ev S=some (.str (catS ys Str.empty),S1):=by
 have hz:sizeLine=16777216:=sizeLine_eq
 have e0:(Str.empty).length=0:=rfl
 simp [eFmt,h,q,fit_of ys Str.empty (by omega)]
theorem fmt_nat {m:Nat} (h:m < 10000):fmtD (.int m)=some (.str (toString (m:Int)))∧(Str.ofString (toString (m:Int))).length≤20:=by
 have hb:(m:Int).natAbs < 2 ^ 19:=by simp;omega
 have hlog:(m:Int).natAbs.log2 < 19:=by
   by_cases h0:(m:Int).natAbs=0
   · rw [h0];decide
   · exact (Nat.log2_lt h0).mpr hb
 refine ⟨?_,?_⟩
 · show (if (m:Int).natAbs.log2 < 1920 then some (D.str (toString (m:Int))) else none)=_
   rw [if_pos (by omega)]
 · have:=int_text_length_le (a:=(m:Int)) (k:=19) (by decide) hlog
   rw [ofString_length];omega
theorem st_tryR {c a:C}{q:R}{cat:Str→Bool}{i:Nat}{cls:Str} (h:c ev S=none) (hr:q ev S=some (cls,S1)) (hc:cat cls=true) (ha:a (ev.set i (some (.obj S1.length))) (S1++[.exc cls])=some (.nx e,S2)) :
   sTry c q cat i a ev S=some (.nx (e.set i none),S2):=by simp [sTry,h,hr,hc,ha]
theorem isx {u:Up}{j:Nat}{c:Str}{d:D}{b:Bool} (h:S[j]? = some (.exc c)) (q:u.ask c d=some b):isiX u S [.obj j,d]=some (.bl b):=by simp [isiX,h,q]
theorem gt_yes {x y:Int} (h:y < x):opGt (.int x) (.int y)=some (.bl true):=by simp [opGt,F.opIB,h]
theorem st_never {c:B}{b:C} (h:c ev S=some (true,S1)):sIf c sNever b ev S=none:=by simp [sIf,h,sNever]
theorem zdo {N n:Nat}{c:C}{ds:List D} (h:c (ds.map some++List.replicate (N - ds.length) none) S=none):zbe N n c ds S=none:=by simp [zbe,h]
theorem zfe {a b:C} (h:a ev S=none):sSeq a b ev S=none:=by simp [sSeq,h]
theorem zfg {a b:C} (h:a ev S=some (.nx e,S1)) (q:b e S1=none):sSeq a b ev S=none:=by simp [sSeq,h,q]
theorem zbo {f:E} (h:f ev S=none):zds f ev S=none:=by simp [zds,h]
theorem set_none {f:E}{i:Nat} (h:f ev S=none):sSet i f ev S=none:=by simp [sSet,h]
theorem zcr {g:G}{a:As}{ds:List D} (h:a ev S=some (ds,S1)) (q:g ds S1=none):zak g a ev S=none:=by simp [zak,h,q]
theorem zej {c m:Str}{g:G}{f:E}{a:As}{i:Nat}{fs:List (Str×D)}{ds:List D} (h:f ev S=some (.obj i,S1)) (hi:zfp c S1 (.obj i)=some (i,fs)) (hm:fs.lookup m=none) (ha:a ev S1=some (ds,S2)) (q:g (.obj i::ds) S2=none) :
   zbh c m g f a ev S=none:=by simp [zbh,h,hi,hm,ha,q]
theorem room_none {m:Nat} (h:2000 < m) (S:Sto):zbk [.int m] S=none:=zdo (st_never (b_of (e_2 (e_v rfl) e_k (gt_yes (by omega)))))
theorem room_bad {m:Nat} (h:2000 < m) (h2:m < 10000) (S:Sto):zbf [.int m] S=some (Str.ofString "TooMany",S):=by
 obtain ⟨f1,l1⟩:=fmt_nat h2
 obtain ⟨f2,l2⟩:=fmt_nat (m:=2000) (by decide)
 unfold zbf
 rw [zdk (n:=1) rfl]
 unfold rc_check_room
 rw [r_if_t (S1:=S) (b_of (e_2 (e_v rfl) e_k (gt_yes (by omega))))]
 refine r_raise (a_c (e_fmt (a_c e_k (a_c (e_1 e_k f2) (a_c e_k (a_c (e_1 (e_v rfl) f1) a_n)))) rfl ?_) a_n) (by simp)
 have e1:(Str.ofString "a make has at most ").length=19:=by rw [ofString_length];rfl
 have e2:(Str.ofString " things, not ").length=13:=by rw [ofString_length];rfl
 simp only [List.map_cons,List.map_nil,List.sum_cons,List.sum_nil,e1,e2]
 omega
end Pg
set_option maxHeartbeats 4000000
namespace Pg
open PySem L2 F Mt
variable {k:Nat} [Kd k] {d l r t x y:D}{ts lt rt:List D}{h lh rh i:Nat}{n:Int}{S S0 S1:Sto}{ev e:Ev}{P Q:D→Prop}{a b new:List D}
theorem all_T (m:Mk k d ts h):All (fun _=>True) d:=by
 induction m with
 | non=>exact .non
 | node _ _ _ _ _ il ir=>exact .node trivial il ir
theorem st_unpL2 {i j:Nat}{f:E}{x y:D} (h:f ev S=some (.lst [x,y],S1)):sUnpL [i,j] f ev S=some (.nx ((ev.set i (some x)).set j (some y)),S1):=by simp [sUnpL,h,setAll]
theorem rev_th (h:∀z∈lt,Thing k z):∀z∈lt.reverse,Thing k z:=fun z hz=>h z (List.mem_reverse.mp hz)
theorem sx (m d v:Nat):HT.sIx m d (some (v:Int))=min v m:=by
 show (if (v:Int) < 0 then ((v:Int) + (m:Int)).toNat else min (v:Int).toNat m)=min v m
 rw [if_neg (by omega),Int.toNat_natCast]
theorem sl_from {s:Nat} (hs:s≤ts.length):opSl (.lst ts) (some (s:Int)) none=some (.lst (ts.drop s)):=by
 show some (D.lst ((ts.drop (HT.sIx ts.length 0 (some (s:Int)))).take (ts.length - HT.sIx ts.length 0 (some (s:Int)))))=_
 rw [sx,Nat.min_eq_left hs,List.take_of_length_le (by rw [List.length_drop];omega)]
theorem sl_mid {s e:Nat} (hs:s≤e) (he:e≤ts.length):opSl (.lst ts) (some (s:Int)) (some (e:Int))=some (.lst ((ts.take e).drop s)):=by
 show some (D.lst ((ts.drop (HT.sIx ts.length 0 (some (s:Int)))).take (HT.sIx ts.length ts.length (some (e:Int)) - HT.sIx ts.length 0 (some (s:Int)))))=_
 rw [sx,sx,Nat.min_eq_left (Nat.le_trans hs he),Nat.min_eq_left he,List.drop_take]
theorem mod_nat (m:Int) (c:Nat):∃e:Nat,e≤c∧zbb (.int m) (.int ((c:Int) + 1))=some (.int e):=by
 have x0:=Int.emod_nonneg m (show (c:Int) + 1≠0 by omega)
 have x1:=Int.emod_lt_of_pos m (show (0:Int) < (c:Int) + 1 by omega)
 exact ⟨(m % ((c:Int) + 1)).toNat,by omega,by rw [zdz (by omega),show (((m % ((c:Int) + 1)).toNat:Nat):Int)=m % ((c:Int) + 1) by omega]⟩
theorem mod_pos (m:Int) {c:Nat} (hc:0 < c):∃e:Nat,e < c∧zbb (.int m) (.int (c:Int))=some (.int e):=by
 have x0:=Int.emod_nonneg m (show (c:Int)≠0 by omega)
 have x1:=Int.emod_lt_of_pos m (show (0:Int) < (c:Int) by omega)
 exact ⟨(m % (c:Int)).toNat,by omega,by rw [zdz (by omega),show (((m % (c:Int)).toNat:Nat):Int)=m % (c:Int) by omega]⟩
theorem rng {c:Nat} (h:c≤10000):∀x∈zeg 0 c,∃i:Int,x=.int i∧0≤i∧i < 10000:=fun x hx=>by
 unfold zeg at hx
 obtain ⟨j,hj,rfl⟩:=List.mem_map.mp hx
 have:=List.mem_range.mp hj
 exact ⟨_,rfl,by omega,by omega⟩
theorem rng_len (c:Nat):(zeg 0 c).length=c:=by simp [zeg]
end Pg
set_option maxHeartbeats 4000000
namespace Pg
open PySem L2 F Mt
variable {k:Nat} [Kd k] {d l r t x y:D}{ts us lt rt:List D}{h lh rh i:Nat}{n:Int}{S S0 S1:Sto}{ev e:Ev}{P Q:D→Prop}
theorem scr_at (ns:List Int) {q:Int} (h0:0≤q) (h1:q < ns.length):∃v:Int,atI (ns.map D.int) q=some (.int v):=by
 have hi:q.toNat < ns.length:=by omega
 have e2:(ns.map D.int)[q.toNat]? = some (.int ns[q.toNat]):=by
   rw [List.getElem?_map,List.getElem?_eq_getElem hi];rfl
 have e3:=atI_nat e2
 rw [show ((q.toNat:Nat):Int)=q by omega] at e3
 exact ⟨_,e3⟩
theorem cell_ok (ns:List Int) (hn:ns.length≤63) {q:Int} (h0:0≤q) (h1:q≤1000000):∃m:Int,∀S,zdh [.lst (ns.map D.int),.int q] S=some (.int m,S):=by
 have len:∀S:Sto,lenD S [.lst (ns.map D.int)]=some (.int (ns.length:Int)):=fun S=>by simp [lenD]
 by_cases c:q < (ns.length:Int)
 · obtain ⟨v,hv⟩:=scr_at ns h0 c
   refine ⟨v,fun S=>b_rt rfl (zbz (zbr (b_of (e_2 (e_v rfl) (e_a (a_c (e_v rfl) a_n) (len _)) (show opLt (.int q) (.int (ns.length:Int))=some (.bl true) by simp [opLt,opIB,c]))) (zax (e_2s (e_v rfl) (e_v rfl) hv))))⟩
 · have first:∀S,sIf (bE (e2 opLt (eV 1) (eA lenD (aC (eV 0) aN)))) (sRet (e2s opIx (eV 0) (eV 1))) sNil [some (.lst (ns.map D.int)),some (.int q),none] S=some (.nx [some (.lst (ns.map D.int)),some (.int q),none],S):=fun S =>
     zaq (b_of (e_2 (e_v rfl) (e_a (a_c (e_v rfl) a_n) (len _)) (show opLt (.int q) (.int (ns.length:Int))=some (.bl false) by simp [opLt,opIB];omega)))
   by_cases z:0 < (ns.length:Int)
   · have x0:=Int.emod_nonneg (q * 3) (show (ns.length:Int)≠0 by omega)
     have x1:=Int.emod_lt_of_pos (q * 3) z
     obtain ⟨v,hv⟩:=scr_at ns x0 x1
     have y0:=Int.emod_nonneg v (show (1000000007:Int)≠0 by decide)
     have y1:=Int.emod_lt_of_pos v (show (0:Int) < 1000000007 by decide)
     refine ⟨_,fun S=>b_rt rfl (zah (first S) (zah (zal (e_2 (e_2 e_k (e_v rfl) (mul_eL (by decide))) e_k (add_int _ _))) (zah (zbr (b_of (e_2 (e_a (a_c (e_v rfl) a_n) (len _)) e_k (show opGt (.int (ns.length:Int)) (.int 0)=some (.bl true) by simp [opGt,opIB];omega)))
       (zal (e_2 (e_v rfl) (e_2 (e_2 (e_2s (e_v rfl) (e_2 (e_2 (e_v rfl) e_k (mul_eR (by decide))) (e_a (a_c (e_v rfl) a_n) (len _)) (zdz z)) hv) e_k (zdz (by decide))) e_k (mul_eR (by decide))) (add_int _ _)))) (zax (e_2 (e_2 (e_2 (e_v rfl) (e_v rfl) (mul_eL (by omega))) e_k (zdz (by decide))) (e_v rfl) (add_int _ _))))))⟩
   · have hb:-(2 ^ 64) < 5 * q + 29∧5 * q + 29 < 2 ^ 64:=by omega
     refine ⟨_,fun S=>b_rt rfl (zah (first S) (zah (zal (e_2 (e_2 e_k (e_v rfl) (mul_eL (by decide))) e_k (add_int _ _))) (zah (zaq (b_of (e_2 (e_a (a_c (e_v rfl) a_n) (len _)) e_k (show opGt (.int (ns.length:Int)) (.int 0)=some (.bl false) from (by show some (D.bl (decide ((0:Int) < (ns.length:Int))))=_;rw [decide_eq_false z]))))) (zax (e_2 (e_2 (e_2 (e_v rfl) (e_v rfl) (mul_eL hb)) e_k (zdz (by decide))) (e_v rfl) (add_int _ _))))))⟩
theorem st_appendS {q j:Nat}{v:E}{us vs:List D} (he:ev[q]? = some (some (.obj j))) (hj:S[j]? = some (.lst vs)) (hv:v ev S=some (x,S1)) (h1:S1[j]? = some (.lst us)) (hl:us.length < 16777216):zeh (eV q) v ev S=some (.nx ev,S1.set j (.lst (us++[x]))):=by
 have hz:sizeLine=16777216:=sizeLine_eq
 simp only [zeh,e_v he,Option.bind_some,hj,hv,h1,hz,if_pos hl]
theorem st_forR {i:Nat}{f:E}{b:C}{n:Int}{o:Out}{S2:Sto} (h:f ev S=some (.int n,S1)) (h0:0≤n) (h1:n < 1000000) (q:loopF i b (zeg 0 n.toNat) ev S1=some (o,S2)):sForR i f b ev S=some (o,S2):=by
 have cnd:-(2 ^ 62)≤n∧n < 2 ^ 62:=by omega
 simp only [sForR,h,Option.bind_some,if_pos cnd,q]
theorem loop_nx {i:Nat}{b:C}{d:D}{ds:List D}{e1:Ev}{o:Out}{S2:Sto} (h:b (ev.set i (some d)) S=some (.nx e1,S1)) (q:loopF i b ds e1 S1=some (o,S2)):loopF i b (d::ds) ev S=some (o,S2):=by
 unfold loopF;rw [h];exact q
theorem frz_lst {g:G}{ds us:List D}{J:Sto} (hS:SB S) (hg:g ds S=some (.lst us,S++J)) (hb:bndL S.length us=true):frz g ds S=some (.lst us,S):=by
 unfold frz
 rw [hg]
 have e1:(S++J).take S.length=S:=List.take_left
 have e2:S.all (bndM S.length)=true:=List.all_eq_true.mpr hS
 simp only [Option.bind_some,e1,e2,if_true,bnd,hb]
theorem bnd_ints {m:Nat}:∀is:List Int,bndL m (is.map D.int)=true
 | []=>rfl
 | i::is=>by rw [List.map_cons];unfold bndL;rw [bnd_ints is];rfl
theorem range_cons (lo:Int) (m:Nat):zeg lo (m + 1)=.int lo::zeg (lo + 1) m:=by
 unfold zeg
 rw [List.range_succ_eq_map,List.map_cons,List.map_map]
 congr 1
 · simp
 · refine List.map_congr_left fun z _=>?_
   simp;omega
def dBody:C:=sSeq (sSet 2 (e2 zbb (e2 zbc (e2 zbc (e2 opMul (eV 2) (e2 zbc (e2 zbc (eV 2) (e2 opMul (eK (.int 2)) (eV 4))) (eK (.int 91)))) (e2 opMul (eK (.int 1013)) (eV 4))) (eK (.int 7))) (eK (.int 998244353)))) (zeh (eV 3) (e2 zdi (eV 2) (eK (.int 5))))
theorem drawn_loop (c a:D) (S:Sto):∀(m:Nat) (lo:Int),0≤lo→lo + m≤10000→∀(nm:Int) (acc:List Int) (o4:Option D),0≤nm→nm < 998244353→acc.length + m≤10000→(∀z∈acc,0≤z∧z < 998244353) →
   ∃(nm':Int) (is:List Int) (o4':Option D),is.length=m∧(∀z∈acc++is,0≤z∧z < 998244353)∧loopF 4 dBody (zeg lo m) [some c,some a,some (.int nm),some (.obj S.length),o4] (S++[.lst (acc.map D.int)])=some (.nx [some c,some a,some (.int nm'),some (.obj S.length),o4'],S++[.lst ((acc++is).map D.int)])
 | 0,lo,_,_,nm,acc,o4,_,_,_,hz=>⟨nm,[],o4,rfl,by simpa using hz,by simp [zeg,loopF]⟩
 | m + 1,lo,l0,l1,nm,acc,o4,h0,h1,hl,hz=>by
   have y0:=Int.emod_nonneg (nm * (nm + 2 * lo + 91) + 1013 * lo + 7) (show (998244353:Int)≠0 by decide)
   have y1:=Int.emod_lt_of_pos (nm * (nm + 2 * lo + 91) + 1013 * lo + 7) (show (0:Int) < 998244353 by decide)
   have md:zbb (.int (nm * (nm + 2 * lo + 91) + 1013 * lo + 7)) (.int 998244353)=some (.int ((nm * (nm + 2 * lo + 91) + 1013 * lo + 7) % 998244353)):=zdz (by decide)
   generalize (nm * (nm + 2 * lo + 91) + 1013 * lo + 7) % 998244353=nx at y0 y1 md
   have d0:0≤nx / 5:=Int.ediv_nonneg y0 (by decide)
   have d1:nx / 5 < 998244353:=by omega
   obtain ⟨nm',is,o4',e1,e2',e3⟩:=drawn_loop c a S m (lo + 1) (by omega) (by omega) nx (acc++[nx / 5]) (some (.int lo)) y0 y1 (by rw [List.length_append];simp;omega) (fun z hz'=>by
     rcases List.mem_append.mp hz' with w | w
     · exact hz z w
     · rw [List.mem_singleton.mp w];exact ⟨d0,d1⟩)
   refine ⟨nm',nx / 5::is,o4',by simp [e1],by simpa using e2',?_⟩
   rw [range_cons]
   rw [List.append_assoc,List.singleton_append] at e3
   refine loop_nx (zah (zal (e_2 (e_2 (e_2 (e_2 (e_v rfl) (e_2 (e_2 (e_v rfl) (e_2 e_k (e_v rfl) (mul_eL (by decide))) (add_int _ _)) e_k (add_int _ _)) (mul_eL (by omega))) (e_2 e_k (e_v rfl) (mul_eL (by decide))) (add_int _ _)) e_k (add_int _ _)) e_k md)) (st_appendS (j:=S.length) (us:=acc.map D.int) (vs:=acc.map D.int) rfl (last_at S _) (e_2 (e_v rfl) e_k (div_e (by decide))) (last_at S _) (by rw [List.length_map];omega))) ?_
   have es:(S++[MO.lst (acc.map D.int)]).set S.length (.lst (acc.map D.int++[.int (nx / 5)]))=S++[.lst ((acc++[nx / 5]).map D.int)]:=by simp
   rw [es]
   exact e3
theorem drawn_ok (c:Int) {a:Nat} (ha:a≤1000) (hS:SB S):∃is:List Int,is.length=a∧(∀z∈is,0≤z∧z < 998244353)∧zec [.int c,.int a] S=some (.lst (is.map D.int),S):=by
 have y0:=Int.emod_nonneg c (show (998244353:Int)≠0 by decide)
 have y1:=Int.emod_lt_of_pos c (show (0:Int) < 998244353 by decide)
 have md:zbb (.int c) (.int 998244353)=some (.int (c % 998244353)):=zdz (by decide)
 generalize c % 998244353=nm at y0 y1 md
 obtain ⟨nm',is,o4',e1,e2',e3⟩:=drawn_loop (.int c) (.int a) S (a + 2) 0 (by omega) (by omega) nm [] none y0 y1 (by simp;omega) (fun z hz=>by cases hz)
 rw [List.nil_append] at e2' e3
 refine ⟨is.drop 2,by rw [List.length_drop];omega,fun z hz=>e2' z (List.mem_of_mem_drop hz),?_⟩
 have cut:cutD (is.map D.int) (some 2) none=(is.drop 2).map D.int:=by
   have:=sl_from (ts:=is.map D.int) (s:=2) (by rw [List.length_map];omega)
   have:=D.lst.inj (Option.some.inj this)
   rw [List.map_drop];exact this
 have sl:eSlM (eV 3) (pE (eK (.int 2))) pN [some (.int c),some (.int a),some (.int nm'),some (.obj S.length),o4'] (S++[.lst (is.map D.int)])=some (.lst ((is.drop 2).map D.int),S++[.lst (is.map D.int)]):=by
   unfold eSlM
   rw [e_v (i:=3) (d:=.obj S.length) rfl]
   simp only [Option.bind_some,pE,eK,pN,opSlM,last_at,cut,Option.map_some]
 refine frz_lst (J:=[.lst (is.map D.int)]) hS (b_rt rfl (zah (zal (e_2 (e_v rfl) e_k md)) (zah (zal (e_newL a_n (Nat.zero_le _))) (zah (st_forR (n:=((a + 2:Nat):Int)) (e_2 (e_v rfl) e_k rfl) (by omega) (by omega) (by rw [Int.toNat_natCast];exact e3)) (zax sl))))) (bnd_ints _)
end Pg
set_option maxHeartbeats 4000000
namespace Pg
open PySem L2 F Mt
variable {k:Nat} [Kd k] {d l r t x y:D}{ts lt rt:List D}{h lh rh i:Nat}{n:Int}{S S0 S1:Sto}{ev e:Ev}{P Q:D→Prop}{a b c:List D}
theorem chain_no {p:Int}{m:Nat}{f g w:E} (hp:¬ (0≤p∧p < m)) (h0:f ev S=some (.int 0,S)) (h1:g ev S=some (.int p,S)) (h2:w ev S=some (.int m,S)):eChain opLe opLt f g w ev S=some (.bl false,S):=by
 by_cases q:(0:Int)≤p
 · have q2:¬ (p < (m:Int)):=fun z=>hp ⟨q,z⟩
   simp only [eChain,h0,h1,h2,Option.bind_some,opLe,opLt,F.opIB,decide_eq_true q,decide_eq_false q2,Option.map_some]
 · simp only [eChain,h0,h1,Option.bind_some,opLe,F.opIB,decide_eq_false q]
theorem chain3_no {s e:Int}{m:Nat}{f g w z:E} (hp:¬ (0≤s∧s≤e∧e≤m)) (h0:f ev S=some (.int 0,S)) (h1:g ev S=some (.int s,S)) (h2:w ev S=some (.int e,S)) (h3:z ev S=some (.int m,S)):eChain3 opLe opLe opLe f g w z ev S=some (.bl false,S):=by
 by_cases q:(0:Int)≤s
 · by_cases q2:s≤e
   · have q3:¬ (e≤(m:Int)):=fun z=>hp ⟨q,q2,z⟩
     simp only [eChain3,h0,h1,h2,h3,Option.bind_some,opLe,F.opIB,decide_eq_true q,decide_eq_true q2,decide_eq_false q3,Option.map_some]
   · simp only [eChain3,h0,h1,h2,Option.bind_some,opLe,F.opIB,decide_eq_true q,decide_eq_false q2]
 · simp only [eChain3,h0,h1,Option.bind_some,opLe,F.opIB,decide_eq_false q]
abbrev NP:Str:=Str.ofString "NoPlace"
abbrev TM:Str:=Str.ofString "TooMany"
def Ref (g:G) (q:GR) (ds:List D) (c:Str) (S:Sto):Prop:=g ds S=none∧q ds S=some (c,S)
theorem place_no {p:Int}{m:Nat} (hp:¬ (0≤p∧p < m)) (S:Sto):Ref zay zap [.int p,.int m] NP S:=by
 refine ⟨zdo (st_never (b_nF (b_of (chain_no hp e_k (e_v rfl) (e_v rfl))))),?_⟩
 unfold zap
 rw [zdk (n:=2) rfl]
 unfold zff
 rw [r_if_t (b_nF (b_of (chain_no hp e_k (e_v rfl) (e_v rfl))))]
 exact r_raise (a_c e_k a_n) (by simp)
theorem place_calm {p m:Nat} (hp:p < m) (S:Sto):zap [.int p,.int m] S=none:=by
 unfold zap
 rw [zdk (n:=2) rfl]
 unfold zff
 exact (zdw (S1:=S) (b_nT (b_of (chain2 hp e_k (e_v rfl) (e_v rfl))))).trans rfl
theorem stretch_no {s e:Int} (m:Mk k d ts h) (hp:¬ (0≤s∧s≤e∧e≤ts.length)) (S:Sto):Ref zdj zcl [d,.int s,.int e] NP S:=by
 refine ⟨zdo (st_never (b_nF (b_of (chain3_no hp e_k (e_v rfl) (e_v rfl) (zaf (a_c (e_v rfl) a_n) (zbm m S)))))),?_⟩
 unfold zcl
 rw [zdk (n:=3) rfl]
 unfold zfn
 rw [r_if_t (b_nF (b_of (chain3_no hp e_k (e_v rfl) (e_v rfl) (zaf (a_c (e_v rfl) a_n) (zbm m S)))))]
 exact r_raise (a_c e_k a_n) (by simp)
theorem room_no {m:Nat} (h:2000 < m) (h2:m < 10000) (S:Sto):Ref zbk zbf [.int m] TM S:=⟨room_none h S,room_bad h h2 S⟩
theorem swapped_no {p:Int} (m:Mk k d ts h) (hp:¬ (0≤p∧p < ts.length)) (w x:D) (S:Sto):Ref g_swapped zev [w,d,.int p,x] NP S:=by
 obtain ⟨c1,c2⟩:=place_no hp S
 refine ⟨zdo (zfe (zbo (zcr (a_c (e_v rfl) (a_c (zaf (a_c (e_v rfl) a_n) (zbm m S)) a_n)) c1))),?_⟩
 unfold zev
 rw [zdk (n:=4) rfl]
 unfold rc_swapped
 rw [zfi (a_c (e_v rfl) (a_c (zaf (a_c (e_v rfl) a_n) (zbm m S)) a_n))]
 exact c2
theorem cut_no {p:Int} (m:Mk k d ts h) (hp:¬ (0≤p∧p < (ts.length + 1:Nat))) (w:D) (S:Sto):Ref g_cut r_cut [w,d,.int p] NP S:=by
 obtain ⟨c1,c2⟩:=place_no hp S
 refine ⟨zdo (zfe (zbo (zcr (a_c (e_v rfl) (a_c (e_2 (zaf (a_c (e_v rfl) a_n) (zbm m S)) e_k (add1 _)) a_n)) c1))),?_⟩
 unfold r_cut
 rw [zdk (n:=3) rfl]
 unfold rc_cut
 rw [zfi (a_c (e_v rfl) (a_c (e_2 (zaf (a_c (e_v rfl) a_n) (zbm m S)) e_k (add1 _)) a_n))]
 exact c2
theorem put_no {p:Int} (m:Mk k d ts h) (hp:¬ (0≤p∧p < (ts.length + 1:Nat))) (w x:D) (S:Sto):Ref g_put r_put [w,d,.int p,x] NP S:=by
 obtain ⟨c1,c2⟩:=place_no hp S
 refine ⟨zdo (zfe (zbo (zcr (a_c (e_v rfl) (a_c (e_2 (zaf (a_c (e_v rfl) a_n) (zbm m S)) e_k (add1 _)) a_n)) c1))),?_⟩
 unfold r_put
 rw [zdk (n:=4) rfl]
 unfold rc_put
 refine r_orL ?_
 rw [zfi (a_c (e_v rfl) (a_c (e_2 (zaf (a_c (e_v rfl) a_n) (zbm m S)) e_k (add1 _)) a_n))]
 exact c2
theorem put_many {p:Nat} (m:Mk k d ts h) (hp:p < ts.length + 1) (hl:2000 < ts.length + 1) (hl2:ts.length + 1 < 10000) (w x:D) (S:Sto):Ref g_put r_put [w,d,.int p,x] TM S:=by
 obtain ⟨c1,c2⟩:=room_no hl hl2 S
 have pl:=place_ok hp S
 refine ⟨zdo (zfg (zdb (zaf (a_c (e_v rfl) (a_c (e_2 (zaf (a_c (e_v rfl) a_n) (zbm m S)) e_k (add1 _)) a_n)) pl)) (zfe (zbo (zcr (a_c (e_2 (zaf (a_c (e_v rfl) a_n) (zbm m S)) e_k (add1 _)) a_n) c1)))),?_⟩
 unfold r_put
 rw [zdk (n:=4) rfl]
 unfold rc_put
 rw [r_orR (by rw [zfi (a_c (e_v rfl) (a_c (e_2 (zaf (a_c (e_v rfl) a_n) (zbm m S)) e_k (add1 _)) a_n))];exact place_calm hp S)]
 rw [r_seq (zdb (zaf (a_c (e_v rfl) (a_c (e_2 (zaf (a_c (e_v rfl) a_n) (zbm m S)) e_k (add1 _)) a_n)) pl))]
 rw [zfi (a_c (e_2 (zaf (a_c (e_v rfl) a_n) (zbm m S)) e_k (add1 _)) a_n)]
 exact c2
theorem turned_part_no {s e:Int} (m:Mk k d ts h) (hp:¬ (0≤s∧s≤e∧e≤ts.length)) (w:D) (S:Sto):Ref zdm zcs [w,d,.int s,.int e] NP S:=by
 obtain ⟨c1,c2⟩:=stretch_no m hp S
 refine ⟨zdo (zfe (zbo (zcr (a_c (e_v rfl) (a_c (e_v rfl) (a_c (e_v rfl) a_n))) c1))),?_⟩
 unfold zcs
 rw [zdk (n:=4) rfl]
 unfold rc_turned_part
 rw [zfi (a_c (e_v rfl) (a_c (e_v rfl) (a_c (e_v rfl) a_n)))]
 exact c2
theorem laid_many (ml:Mk k l lt lh) (mr:Mk k r rt rh) (h1:2000 < lt.length + rt.length) (h2:lt.length + rt.length < 10000) (w:D) (S:Sto):Ref g_laid r_laid [w,l,r] TM S:=by
 obtain ⟨c1,c2⟩:=room_no h1 h2 S
 refine ⟨zdo (zfe (zbo (zcr (a_c (e_2 (zaf (a_c (e_v rfl) a_n) (zbm ml S)) (zaf (a_c (e_v rfl) a_n) (zbm mr S)) (add_int _ _)) a_n) c1))),?_⟩
 unfold r_laid
 rw [zdk (n:=3) rfl]
 unfold rc_laid
 rw [zfi (a_c (e_2 (zaf (a_c (e_v rfl) a_n) (zbm ml S)) (zaf (a_c (e_v rfl) a_n) (zbm mr S)) (add_int _ _)) a_n)]
 exact c2
theorem make_many (h1:2000 < ts.length) (h2:ts.length < 10000) (w:D) (S:Sto):Ref g_make_of zfh [w,.lst ts] TM S:=by
 obtain ⟨c1,c2⟩:=room_no h1 h2 S
 refine ⟨zdo (zfe (zbo (zcr (a_c (e_a (a_c (e_v rfl) a_n) rfl) a_n) c1))),?_⟩
 unfold zfh
 rw [zdk (n:=2) rfl]
 unfold rc_make_of
 rw [zfi (a_c (e_a (a_c (e_v rfl) a_n) rfl) a_n)]
 exact c2
theorem e_repL {g:As}{f:E}{m:Int}{ds:List D}{S2:Sto} (h:g ev S=some (ds,S1)) (q:f ev S1=some (.int m,S2)) (h1:ds.length≤1000) (h2:0≤m∧m≤10000):eRepL g f ev S=some (.lst (List.replicate m.toNat ds).flatten,S2):=by
 have hz:sizeLine=16777216:=sizeLine_eq
 have hm:ds.length * m.toNat≤1000 * 10000:=Nat.mul_le_mul h1 (by omega)
 simp only [eRepL,h,q,Option.bind_some]
 rw [if_pos ⟨by omega,by omega,by omega,by omega⟩]
end Pg
set_option maxHeartbeats 4000000
namespace Pg
open PySem L2 F Mt
variable {k:Nat} [Kd k] {d d0 l r t x y:D}{ts us lt rt:List D}{h lh rh i:Nat}{n:Int}{S S0 S1:Sto}{ev e:Ev}{P Q:D→Prop}
theorem th_int (i:Int):Thing k (.int i):=by
 have h:=Kd.ne (k:=k)
 subst h;exact .inl ⟨i,rfl⟩
theorem th_str {z:Str} (hz:z.length≤8):Thing k (.str z):=by
 have h:=Kd.ne (k:=k)
 subst h;exact .inr ⟨z,rfl,hz⟩
theorem z_len:(Str.ofString "abcdefghijklmnopqrstuvwxyz").cps.toList.length=26:=by decide +kernel
theorem z_le:(Str.ofString "abcdefghijklmnopqrstuvwxyz").length≤sizeLine:=by decide +kernel
theorem z_at (c:Int):∃z,∀S:Sto,opIx S (.str (Str.ofString "abcdefghijklmnopqrstuvwxyz")) (.int (c % 26))=some (.str ⟨#[z]⟩):=by
 have x0:=Int.emod_nonneg c (show (26:Int)≠0 by decide)
 have x1:=Int.emod_lt_of_pos c (show (0:Int) < 26 by decide)
 generalize c % 26=z at x0 x1
 have hat:∃c,atI (Str.ofString "abcdefghijklmnopqrstuvwxyz").cps.toList z=some c:=by
   have hz:z.toNat < (Str.ofString "abcdefghijklmnopqrstuvwxyz").cps.toList.length:=by rw [z_len];omega
   have e3:=atI_nat (List.getElem?_eq_getElem hz)
   rw [show ((z.toNat:Nat):Int)=z by omega] at e3
   exact ⟨_,e3⟩
 obtain ⟨y,hy⟩:=hat
 refine ⟨y,fun S=>?_⟩
 unfold opIx
 simp only [if_pos z_le,hy]
 rfl
theorem rep_len (m:Nat) (z:Str):(repS m z).length=m * z.length:=by
 have gen:∀(m:Nat) (acc:Array Nat),((List.replicate m z.cps).foldl (·++·) acc).size=acc.size + m * z.cps.size:=fun m=>by
   induction m with
   | zero=>intro acc;simp
   | succ m ih=>intro acc;rw [List.replicate_succ,List.foldl_cons,ih,Array.size_append,Nat.succ_mul];omega
 have:=gen m #[]
 simpa [repS,Str.length] using this
theorem mulS_ok (z:Nat) {m:Int} (h1:1≤m) (h2:m≤3):∃w:Str,w.length≤8∧opMulS (.str ⟨#[z]⟩) (.int m)=some (.str w):=by
 have l1:(⟨#[z]⟩:Str).length=1:=rfl
 refine ⟨_,?_,if_pos ⟨h1,by omega,by rw [l1];decide⟩⟩
 split
 · rw [l1];decide
 · rw [rep_len,l1];omega
theorem p50:opPow (.int 10) (.int 50)=some (.int (10 ^ 50)):=by
 have:powI 10 50=some (10 ^ 50):=by unfold powI;rw [if_pos (by decide)];rfl
 simp only [opPow,F.opI,this];rfl
theorem p59:opPow (.int 10) (.int 59)=some (.int (10 ^ 59)):=by
 have:powI 10 59=some (10 ^ 59):=by unfold powI;rw [if_pos (by decide)];rfl
 simp only [opPow,F.opI,this];rfl
def Kx (κ:Int):Prop:=κ=0∨κ=1
theorem eq_w (w c:Int):opEq (.int w) (.int c)=some (.bl (decide (w=c))):=by rw [eq_int];rfl
theorem lt_w (w c:Int):opLt (.int w) (.int c)=some (.bl (decide (w < c))):=rfl
theorem four {S:Sto}{a b c d:Int}{j:Int} (h0:0≤j) (h1:j < 4):∃v:Int,opIx S (.lst [.int a,.int b,.int c,.int d]) (.int j)=some (.int v):=by
 have:j=0∨j=1∨j=2∨j=3:=by omega
 rcases this with rfl | rfl | rfl | rfl
 · exact ⟨_,rfl⟩
 · exact ⟨_,rfl⟩
 · exact ⟨_,rfl⟩
 · exact ⟨_,rfl⟩
theorem thing_ok {κ:Int} (hk:Kx κ) {n:Int} (n0:0≤n) (n1:n < 1000000000000):∃d,Thing k d∧∀S,zcu [.int n,.int κ] S=some (d,S):=by
 rcases hk with rfl | rfl
 · obtain ⟨z,hz⟩:=z_at n
   have x0:=Int.emod_nonneg (n / 26) (show (3:Int)≠0 by decide)
   have x1:=Int.emod_lt_of_pos (n / 26) (show (0:Int) < 3 by decide)
   obtain ⟨w,hw,cw⟩:=mulS_ok z (m:=1 + n / 26 % 3) (by omega) (by omega)
   exact ⟨.str w,th_str hw,fun S=>b_rt rfl (zbz (zbr (b_of (e_2 (e_v rfl) e_k rfl)) (zax (e_2 (e_2s e_k (e_2 (e_v rfl) e_k (zdz (by decide))) (hz _)) (e_2 e_k (e_2 (e_2 (e_v rfl) e_k (div_e (by decide))) e_k (zdz (by decide))) (add_int _ _)) cw))))⟩
 · have x0:=Int.emod_nonneg (n / 7) (show (4:Int)≠0 by decide)
   have x1:=Int.emod_lt_of_pos (n / 7) (show (0:Int) < 4 by decide)
   obtain ⟨v,hv⟩:=four (S:=[]) (a:=n % 7 - 3) (b:=n * 10 ^ 50 % (2 * 10 ^ 59 + 1) - 10 ^ 59) (c:=n) (d:=0) x0 x1
   refine ⟨.int v,th_int v,fun S=>b_rt rfl (zah (zaq (b_of (e_2 (e_v rfl) e_k rfl))) (zbz (zbr (b_of (e_2 (e_v rfl) e_k rfl)) (zah (zal (e_2 (e_2 (e_2 (e_v rfl) (e_2 e_k e_k p50) (mul_eL (by omega))) (e_2 (e_2 e_k (e_2 e_k e_k p59) (mul_eL (by decide))) e_k (add_int _ _)) (zdz (by decide))) (e_2 e_k e_k p59) (sub_int _ _))) (zax (e_2s (e_lst (a_c (e_2 (e_2 (e_v rfl) e_k (zdz (by decide))) e_k (sub_int _ _)) (a_c (e_v rfl) (a_c (e_v rfl) (a_c e_k a_n)))) (Nat.le_of_ble_eq_true rfl)) (e_2 (e_2 (e_v rfl) e_k (div_e (by decide))) e_k (zdz (by decide))) hv))))))⟩
theorem amount_ok (c:Int):∃a:Nat,a < 300∧∀S,zfr [.int c] S=some (.int a,S):=by
 have nt:∀(m:Int),0 < m→m≤300→∃a:Nat,a < 300∧zbb (.int (c / 16)) (.int m)=some (.int a):=fun m m0 m1=>by
   have x0:=Int.emod_nonneg (c / 16) (show m≠0 by omega)
   have x1:=Int.emod_lt_of_pos (c / 16) m0
   exact ⟨(c / 16 % m).toNat,by omega,by rw [zdz m0,show (((c / 16 % m).toNat:Nat):Int)=c / 16 % m by omega]⟩
 obtain ⟨a1,h1,e1⟩:=nt 300 (by decide) (by decide)
 obtain ⟨a2,h2,e2'⟩:=nt 60 (by decide) (by decide)
 obtain ⟨a3,h3,e3⟩:=nt 9 (by decide) (by decide)
 by_cases z:c % 16=5
 · exact ⟨a1,h1,fun S=>b_rt rfl (zbz (zbr (b_of (e_2 (e_2 (e_v rfl) e_k (zdz (by decide))) e_k ((eq_w _ _).trans (by rw [decide_eq_true z])))) (zax (e_2 (e_2 (e_v rfl) e_k (div_e (by decide))) e_k e1))))⟩
 · by_cases y:c % 4=1
   · exact ⟨a2,h2,fun S=>b_rt rfl (zah (zaq (b_of (e_2 (e_2 (e_v rfl) e_k (zdz (by decide))) e_k ((eq_w _ _).trans (by rw [decide_eq_false z]))))) (zbz (zbr (b_of (e_2 (e_2 (e_v rfl) e_k (zdz (by decide))) e_k ((eq_w _ _).trans (by rw [decide_eq_true y])))) (zax (e_2 (e_2 (e_v rfl) e_k (div_e (by decide))) e_k e2')))))⟩
   · exact ⟨a3,h3,fun S=>b_rt rfl (zah (zaq (b_of (e_2 (e_2 (e_v rfl) e_k (zdz (by decide))) e_k ((eq_w _ _).trans (by rw [decide_eq_false z]))))) (zah (zaq (b_of (e_2 (e_2 (e_v rfl) e_k (zdz (by decide))) e_k ((eq_w _ _).trans (by rw [decide_eq_false y]))))) (zax (e_2 (e_2 (e_v rfl) e_k (div_e (by decide))) e_k e3))))⟩

instance:Kd 0:=⟨rfl⟩
theorem compM_e {f g:E}{us:List D}{is:List Int} (hf:f ev S=some (.lst (is.map D.int),S)) (h:compF bYes g [] (is.map D.int) S=some (us,S)):eCompM [] f bYes g ev S=some (.obj S.length,S++[.lst us]):=by
 unfold eCompM
 rw [hf]
 simp only [Option.bind_some]
 exact (congrArg (fun z=>Option.map (fun q:List D×Sto=>(D.obj q.2.length,q.2++[MO.lst q.1])) z) h).trans rfl
theorem listW_o {f:E} (h:f ev S=some (.obj i,S1)) (hi:S1[i]? = some (.lst ts)):eListW (aC f aN) ev S=some (.lst ts,S1):=by simp [eListW,aC,aN,h,hi]
theorem e_lm {op:List D→List D→Option (D×List D)}{f:E}{a:As}{as ds0 ds ds':List D}{S2:Sto} (hf:f ev S=some (.obj i,S1)) (h0:S1[i]? = some (.lst ds0)) (ha:a ev S1=some (as,S2)) (h1:S2[i]? = some (.lst ds)) (ho:op ds as=some (x,ds')):eLm op f a ev S=some (x,S2.set i (.lst ds')):=by
 simp only [eLm,hf,Option.bind_some,h0,ha,h1,ho,Option.map_some]
theorem popAt_e {p:Nat} (hp:p < ts.length) (hl:ts.length≤2000):opPopAt ts [.int p]=some (ts[p],ts.eraseIdx p):=by
 unfold opPopAt
 simp only []
 rw [if_pos ⟨by omega,by omega,by omega⟩,Int.toNat_natCast,List.getElem?_eq_getElem hp]
 rfl
theorem insert_e {p:Nat} (hp:p≤ts.length) (hl:ts.length≤2000):opInsert ts [.int p,x]=some (.non,ts.take p++x::ts.drop p):=by
 have hz:sizeLine=16777216:=sizeLine_eq
 unfold opInsert
 simp only []
 rw [if_pos ⟨by omega,by omega,by omega⟩,Int.toNat_natCast]
theorem st_itemN {q p v:Nat}{xs:List D}{c:Nat} (he:ev[q]? = some (some (.obj i))) (hp:ev[p]? = some (some (.int c))) (hv:ev[v]? = some (some x)) (hi:S[i]? = some (.lst xs)) (hc:c < xs.length):sItem (eV q) (eV p) (eV v) ev S=some (.nx ev,S.set i (.lst (xs.set c x))):=by
 have e1:ixN xs.length (c:Int)=some c:=by
   unfold ixN
   rw [if_pos (by omega),if_pos (by omega),Int.toNat_natCast]
 simp only [sItem,e_v hv,e_v he,e_v hp,Option.bind_some,hi,e1,Option.map_some]
theorem slM_e {q p v s e:Nat} (he:ev[q]? = some (some (.obj i))) (hp:ev[p]? = some (some (.int s))) (hv:ev[v]? = some (some (.int e))) (hi:S[i]? = some (.lst ts)) (hs:s≤e) (hl:e≤ts.length):eSlM (eV q) (pE (eV p)) (pE (eV v)) ev S=some (.lst ((ts.take e).drop s),S):=by
 have:=D.lst.inj (Option.some.inj (sl_mid (ts:=ts) hs hl))
 unfold eSlM
 simp only [e_v he,Option.bind_some,p_e (e_v hp),p_e (e_v hv),opSlM,hi,Option.map_some]
 rw [this]
theorem slSet_e {q p v s e:Nat}{f:E} (hf:f ev S=some (.lst us,S)) (he:ev[q]? = some (some (.obj i))) (hp:ev[p]? = some (some (.int s))) (hv:ev[v]? = some (some (.int e))) (hi:S[i]? = some (.lst ts)) (hs:s≤e) (hl:e≤ts.length) (l1:ts.length≤2000) (l2:us.length≤2000):sSlSet (eV q) (pE (eV p)) (pE (eV v)) f ev S=some (.nx ev,S.set i (.lst (ts.take s++us++ts.drop e))):=by
 have hz:sizeLine=16777216:=sizeLine_eq
 have cnd:(0:Int)≤(s:Int)∧(s:Int)≤(e:Int)∧(e:Int)≤(ts.length:Int)∧ts.length + us.length≤sizeLine:=by omega
 unfold sSlSet
 simp only [hf,e_v he,Option.bind_some,p_e (e_v hp),p_e (e_v hv),hi,if_pos cnd,Int.toNat_natCast]
def sfs (d:D) (j:Nat):List (Str×D):=[("wood",.obj 0),("held",d),("done",.obj j)]
def shf (d:D) (j:Nat):MO:=.ins "Shelf" (sfs d j)
variable {j:Nat}{dl:List D}{R:Sto}
theorem zar (h:S[i]? = some (shf d j)):zfp "Shelf" S (.obj i)=some (i,sfs d j):=by simp [zfp,h,shf]
theorem hw1:¬ (("wood":Str)="held"):=by decide +kernel
theorem hw2:¬ (("wood":Str)="done"):=by decide +kernel
theorem hw3:¬ (("held":Str)="done"):=by decide +kernel
theorem hb1:(("held":Str) == "wood")=false:=by decide +kernel
theorem hb2:(("done":Str) == "wood")=false:=by decide +kernel
theorem hb3:(("done":Str) == "held")=false:=by decide +kernel
theorem sl_wood:(sfs d j).lookup ("wood":Str)=some (.obj 0):=by simp [sfs,List.lookup]
theorem sl_held:(sfs d j).lookup ("held":Str)=some d:=by simp [sfs,List.lookup,hb1]
theorem sl_done:(sfs d j).lookup ("done":Str)=some (.obj j):=by simp [sfs,List.lookup,hb2,hb3]
theorem sl_no {m:Str} (h1:(m == "wood")=false) (h2:(m == "held")=false) (h3:(m == "done")=false):(sfs d j).lookup m=none:=by simp [sfs,List.lookup,h1,h2,h3]
theorem sl_make:(sfs d j).lookup ("make":Str)=none:=sl_no (by decide +kernel) (by decide +kernel) (by decide +kernel)
theorem sl_hold:(sfs d j).lookup ("hold":Str)=none:=sl_no (by decide +kernel) (by decide +kernel) (by decide +kernel)
theorem sl_out:(sfs d j).lookup ("out":Str)=none:=sl_no (by decide +kernel) (by decide +kernel) (by decide +kernel)
theorem sl_swap:(sfs d j).lookup ("swap":Str)=none:=sl_no (by decide +kernel) (by decide +kernel) (by decide +kernel)
theorem sl_put:(sfs d j).lookup ("put":Str)=none:=sl_no (by decide +kernel) (by decide +kernel) (by decide +kernel)
theorem zft:(sfs d j).lookup ("turned":Str)=none:=sl_no (by decide +kernel) (by decide +kernel) (by decide +kernel)
theorem sl_deeds:(sfs d j).lookup ("deeds":Str)=none:=sl_no (by decide +kernel) (by decide +kernel) (by decide +kernel)
theorem sl_things:(sfs d j).lookup ("things":Str)=none:=sl_no (by decide +kernel) (by decide +kernel) (by decide +kernel)
theorem put_held:putD "held" x (sfs d j)=sfs x j:=by simp [sfs,putD,hw1]
theorem zed {q:Nat} (he:ev[q]? = some (some (.obj i))) (h:S[i]? = some (shf d j)):eFld "Shelf" "held" (eV q) ev S=some (d,S):=e_fld (e_v he) (zar h) sl_held
theorem zfm {q:Nat} (he:ev[q]? = some (some (.obj i))) (h:S[i]? = some (shf d j)):eFld "Shelf" "wood" (eV q) ev S=some (.obj 0,S):=e_fld (e_v he) (zar h) sl_wood
theorem st_held {q:Nat}{v:E} (he:ev[q]? = some (some (.obj i))) (hv:v ev S=some (x,S1)) (h:S1[i]? = some (shf d j)):zee "Shelf" "held" (eV q) v ev S=some (.nx ev,S1.set i (shf x j)):=by
 have hl:(sfs d j).length < 1000:=show 3 < 1000 by decide
 simp only [zee,hv,Option.bind_some,e_v he,zar h,if_pos hl,put_held]
 rfl
theorem make_ok (h:S[i]? = some (shf d j)):zdd [.obj i] S=some (d,S):=b_rt rfl (zax (zed rfl h))
theorem make_e {q:Nat} (he:ev[q]? = some (some (.obj i))) (h:S[i]? = some (shf d j)):zbh "Shelf" "make" zdd (eV q) aN ev S=some (d,S):=zcz (e_v he) (zar h) sl_make a_n (make_ok h)
theorem things_e {q:Nat}{us:List D}{g:Nat} (he:ev[q]? = some (some (.obj i))) (hs:S[i]? = some (shf d j)) (m:Mk 0 d us g) (hl:us.length≤2000) (sb:SB S):zbh "Shelf" "things" zbj (eV q) aN ev S=some (.lst us,S) :=
 zcz (e_v he) (zar hs) sl_things a_n (b_rt rfl (zax (zaf (a_c (zed rfl hs) a_n) (things_of_ok m hl sb))))
theorem deeds_e {q:Nat} (he:ev[q]? = some (some (.obj i))) (hs:S[i]? = some (shf d j)) (hj:S[j]? = some (.lst dl)):zbh "Shelf" "deeds" zbx (eV q) aN ev S=some (.lst dl,S) :=
 zcz (e_v he) (zar hs) sl_deeds a_n (b_rt rfl (zax (listW_o (e_fld (e_v rfl) (zar hs) sl_done) hj)))
theorem st_appendF {f v:E}{us:List D} (hf:f ev S=some (.obj j,S)) (hj:S[j]? = some (.lst us)) (hv:v ev S=some (x,S)) (hl:us.length < 16777216):zeh f v ev S=some (.nx ev,S.set j (.lst (us++[x]))):=by
 have hz:sizeLine=16777216:=sizeLine_eq
 simp only [zeh,hf,Option.bind_some,hj,hv,hz,if_pos hl]
theorem init0 (S:Sto) (x:D) {o:Out}{S':Sto}{c:C} (h:c [some (.obj S.length),some (.obj 0),some x] (S++[shf .non (S.length + 1),.lst []])=some (o,S')) :
   sSeq (zee "Shelf" "wood" (eV 0) (eV 1)) (sSeq (zee "Shelf" "held" (eV 0) (eK .non)) (sSeq (zee "Shelf" "done" (eV 0) (eNewL aN)) c)) [some (.obj S.length),some (.obj 0),some x] (S++[.ins "Shelf" []])=some (o,S'):=by
 have a1:zee "Shelf" "wood" (eV 0) (eV 1) [some (.obj S.length),some (.obj 0),some x] (S++[.ins "Shelf" []])=some (.nx [some (.obj S.length),some (.obj 0),some x],S++[.ins "Shelf" [("wood",.obj 0)]]):=by
   simp [zee,eV,zfp,putD]
 have a2:zee "Shelf" "held" (eV 0) (eK .non) [some (.obj S.length),some (.obj 0),some x] (S++[.ins "Shelf" [("wood",.obj 0)]])=some (.nx [some (.obj S.length),some (.obj 0),some x],S++[.ins "Shelf" [("wood",.obj 0),("held",.non)]]):=by
   simp [zee,eV,eK,zfp,putD,hw1]
 have a3:zee "Shelf" "done" (eV 0) (eNewL aN) [some (.obj S.length),some (.obj 0),some x] (S++[.ins "Shelf" [("wood",.obj 0),("held",.non)]])=some (.nx [some (.obj S.length),some (.obj 0),some x],S++[shf .non (S.length + 1),.lst []]):=by
   have e1:eNewL aN [some (.obj S.length),some (.obj 0),some x] (S++[.ins "Shelf" [("wood",.obj 0),("held",.non)]])=some (.obj (S.length + 1),S++[.ins "Shelf" [("wood",.obj 0),("held",.non)],.lst []]):=by
     have:=e_newL (a:=aN) (ev:=[some (.obj S.length),some (.obj 0),some x]) (S:=S++[.ins "Shelf" [("wood",.obj 0),("held",.non)]]) a_n (Nat.zero_le _)
     simpa using this
   simp [zee,e1,eV,zfp,putD,hw2,hw3,shf,sfs]
 exact zah a1 (zah a2 (zah a3 h))
theorem wt_eq {new:List D}{T:Sto} (w:Wt 0 0 (wd (addv 0) n::R) n new T):T=wd (addv 0) (n + new.length)::R:=by
 apply List.ext_getElem?
 intro q
 cases q with
 | zero=>exact w.at_
 | succ q=>rw [w.ne (q + 1) (by omega)];rfl
theorem shelf_1 {f g:E} (hf:f ev (wd (addv 0) n::R)=some (.obj 0,wd (addv 0) n::R)) (hg:g ev (wd (addv 0) n::R)=some (.lst ts,wd (addv 0) n::R)) (h1:∀x∈ts,Thing 0 x) (hl:ts.length≤2000):∃d h n',eMake "Shelf" zas (aC f (aC g aN)) ev (wd (addv 0) n::R)=some (.obj (R.length + 1),wd (addv 0) n'::(R++[shf d (R.length + 2),.lst []]))∧Mk 0 d ts h:=by
 obtain ⟨d,h,new,T,c,rr⟩:=make_of_ok (k:=0) (i:=0) (n:=n) (P:=fun _=>True) (S:=wd (addv 0) n::(R++[shf .non (R.length + 2),.lst []])) rfl h1 hl
 have eT:=wt_eq rr.wt
 subst eT
 refine ⟨d,h,n + new.length,?_,rr.mm⟩
 have hT:(wd (addv 0) (n + new.length)::(R++[shf .non (R.length + 2),.lst []]))[R.length + 1]? = some (shf .non (R.length + 2)):=by simp
 have ci:zas [.obj (R.length + 1),.obj 0,.lst ts] ((wd (addv 0) n::R)++[.ins "Shelf" []])=some (.non,(wd (addv 0) (n + new.length)::(R++[shf .non (R.length + 2),.lst []])).set (R.length + 1) (shf d (R.length + 2))) :=
   b_nx rfl (init0 (wd (addv 0) n::R) (.lst ts) (zbr (b_of (e_2 (e_v rfl) e_k rfl)) (st_held rfl (zaf (a_c (e_v rfl) (a_c (e_v rfl) a_n)) c) hT)))
 have e0:(wd (addv 0) n::R).length=R.length + 1:=rfl
 simp only [eMake,a_c hf (a_c hg a_n),Option.bind_some,e0,ci]
 simp
end Pg
set_option maxHeartbeats 4000000
namespace Pg
open PySem L2 F Mt
variable {d d0 l r t x y o:D}{ts us dl e ks:List D}{h i j g:Nat}{n:Int}{S S0 S1 R:Sto}{ev:Ev}
def W0 (n:Int) (ts:List D) (d:D) (dl:List D) (R:Sto):Sto:=wd (addv 0) n::.lst ts::shf d 3::.lst dl::R
theorem hold_ok (hl:dl.length < 16777216):zam [.obj 2,x,y] (W0 n ts d dl R)=some (.non,W0 n ts x (dl++[y]) R) :=
 b_nx rfl (zah (st_held (S1:=W0 n ts d dl R) rfl (e_v rfl) rfl) (st_appendF (j:=3) (us:=dl) (S:=W0 n ts x dl R) (e_fld (e_v rfl) (zar (S:=W0 n ts x dl R) (i:=2) (d:=x) (j:=3) rfl) sl_done) rfl (e_v rfl) hl))
theorem hold_e {a b:E}{n':Int} (he:ev[0]? = some (some (.obj 2))) (ha:a ev (W0 n ts d dl R)=some (x,W0 n' ts d dl R)) (hb:b ev (W0 n' ts d dl R)=some (y,W0 n' ts d dl R)) (hl:dl.length < 16777216):zbh "Shelf" "hold" zam (eV 0) (aC a (aC b aN)) ev (W0 n ts d dl R)=some (.non,W0 n' ts x (dl++[y]) R) :=
 zcz (e_v he) (zar (S:=W0 n ts d dl R) (i:=2) (d:=d) (j:=3) rfl) sl_hold (a_c ha (a_c hb a_n)) (hold_ok hl)
theorem h2:(W0 n ts d dl R)[2]? = some (shf d 3):=rfl
theorem w_eq {new:List D}{T:Sto} (w:Wt 0 0 (W0 n ts d dl R) n new T):T=W0 (n + new.length) ts d dl R:=wt_eq w
def dOut (p:Nat):D:=.tup [.str (Str.ofString "out"),.int p]
def dSwap (p:Nat):D:=.tup [.str (Str.ofString "swap"),.int p]
def dPut (p:Nat):D:=.tup [.str (Str.ofString "put"),.int p]
def dTurn (p q:Nat):D:=.tup [.str (Str.ofString "turned"),.int p,.int q]
theorem sh_out {p:Nat} (m:Mk 0 d us h) (hl:us.length≤2000) (hp:p < us.length) (hd:dl.length < 16777216):∃d' h' n',zci [.obj 2,.int p] (W0 n ts d dl R)=some (us[p],W0 n' ts d' (dl++[dOut p]) R)∧Mk 0 d' (us.eraseIdx p) h':=by
 obtain ⟨d',h',new,T1,c,rr,few⟩:=out_ok (k:=0) (i:=0) (S:=W0 n ts d dl R) (n:=n) rfl m hl hp (all_T m)
 have eT:=w_eq rr.wt
 subst eT
 exact ⟨d',h',n + new.length,b_rt rfl (zah (zal (zaf (a_c (zed rfl h2) (a_c (e_v rfl) a_n)) (at_ok m hl (List.getElem?_eq_getElem hp) _))) (zah (zdb (hold_e rfl (zaf (a_c (zfm rfl h2) (a_c (zed rfl h2) (a_c (e_v rfl) a_n))) c) (zey (a_c e_k (a_c (e_v rfl) a_n)) (Nat.le_of_ble_eq_true rfl)) hd)) (zax (e_v rfl)))),rr.mm⟩
theorem sh_swap {p:Nat} (m:Mk 0 d us h) (hl:us.length≤2000) (hp:p < us.length) (ht:Thing 0 x) (hd:dl.length < 16777216):∃d' n',zdc [.obj 2,.int p,x] (W0 n ts d dl R)=some (.non,W0 n' ts d' (dl++[dSwap p]) R)∧Mk 0 d' (us.set p x) h:=by
 obtain ⟨d',new,T1,c,rr,few⟩:=swapped_ok (k:=0) (i:=0) (S:=W0 n ts d dl R) (n:=n) rfl m hl hp ht (all_T m)
 have eT:=w_eq rr.wt
 subst eT
 exact ⟨d',n + new.length,b_nx rfl (zdb (hold_e rfl (zaf (a_c (zfm rfl h2) (a_c (zed rfl h2) (a_c (e_v rfl) (a_c (e_v rfl) a_n)))) c) (zey (a_c e_k (a_c (e_v rfl) a_n)) (Nat.le_of_ble_eq_true rfl)) hd)),rr.mm⟩
theorem sh_put {p:Nat} (m:Mk 0 d us h) (hl:us.length < 2000) (hp:p≤us.length) (ht:Thing 0 x) (hd:dl.length < 16777216):∃d' h' n',zbt [.obj 2,.int p,x] (W0 n ts d dl R)=some (.non,W0 n' ts d' (dl++[dPut p]) R)∧Mk 0 d' (us.take p++x::us.drop p) h':=by
 obtain ⟨d',h',new,T1,c,rr,few⟩:=put_ok (k:=0) (i:=0) (S:=W0 n ts d dl R) (n:=n) rfl m hl hp ht (all_T m)
 have eT:=w_eq rr.wt
 subst eT
 exact ⟨d',h',n + new.length,b_nx rfl (zdb (hold_e rfl (zaf (a_c (zfm rfl h2) (a_c (zed rfl h2) (a_c (e_v rfl) (a_c (e_v rfl) a_n)))) c) (zey (a_c e_k (a_c (e_v rfl) a_n)) (Nat.le_of_ble_eq_true rfl)) hd)),rr.mm⟩
theorem sh_turned {p q:Nat} (m:Mk 0 d us h) (hl:us.length≤2000) (hp:p≤q) (hq:q≤us.length) (hd:dl.length < 16777216):∃d' h' n',zbv [.obj 2,.int p,.int q] (W0 n ts d dl R)=some (.non,W0 n' ts d' (dl++[dTurn p q]) R)∧Mk 0 d' (turn p q us) h':=by
 obtain ⟨d',h',new,T1,c,rr⟩:=turned_part_ok (k:=0) (i:=0) (S:=W0 n ts d dl R) (n:=n) rfl m hl hp hq (all_T m)
 have eT:=w_eq rr.wt
 subst eT
 exact ⟨d',h',n + new.length,b_nx rfl (zdb (hold_e rfl (zaf (a_c (zfm rfl h2) (a_c (zed rfl h2) (a_c (e_v rfl) (a_c (e_v rfl) a_n)))) c) (zey (a_c e_k (a_c (e_v rfl) (a_c (e_v rfl) a_n))) (Nat.le_of_ble_eq_true rfl)) hd)),rr.mm⟩
def Dd (x:D):Prop:=bnd 0 x=true∧pl 2 x=true
theorem dd_out (p:Nat):Dd (dOut p):=⟨rfl,rfl⟩
theorem dd_swap (p:Nat):Dd (dSwap p):=⟨rfl,rfl⟩
theorem dd_put (p:Nat):Dd (dPut p):=⟨rfl,rfl⟩
theorem dd_turn (p q:Nat):Dd (dTurn p q):=⟨rfl,rfl⟩
def Zs (n:Int) (ts:List D) (d:D) (dl e:List D):Sto:=W0 n ts d dl [.lst e]
theorem app7 {v:E} (he:ev[2]? = some (some (.obj 4))) (hv:v ev (Zs n ts d dl e)=some (y,Zs n ts d dl e)) (hl:e.length < 16777216):zeh (eV 2) v ev (Zs n ts d dl e)=some (.nx ev,Zs n ts d dl (e++[y])):=st_append (j:=4) (us:=e) he rfl hv hl
theorem lm1 {op:List D→List D→Option (D×List D)}{a:As}{as ts':List D} (he:ev[1]? = some (some (.obj 1))) (ha:a ev (Zs n ts d dl e)=some (as,Zs n ts d dl e)) (ho:op ts as=some (y,ts')):eLm op (eV 1) a ev (Zs n ts d dl e)=some (y,Zs n ts' d dl e):=e_lm (i:=1) (ds0:=ts) (ds:=ts) (e_v he) rfl ha rfl ho
theorem item1 {c:Nat} (he:ev[1]? = some (some (.obj 1))) (hp:ev[6]? = some (some (.int c))) (hv:ev[7]? = some (some x)) (hc:c < ts.length):sItem (eV 1) (eV 6) (eV 7) ev (Zs n ts d dl e)=some (.nx ev,Zs n (ts.set c x) d dl e):=st_itemN (i:=1) (xs:=ts) he hp hv rfl hc
theorem meth2 {mm:Str}{gg:G}{a:As}{as:List D}{S':Sto} (he:ev[0]? = some (some (.obj 2))) (hm:(sfs d 3).lookup mm=none) (ha:a ev (Zs n ts d dl e)=some (as,Zs n ts d dl e)) (q:gg (.obj 2::as) (Zs n ts d dl e)=some (y,S')):zbh "Shelf" mm gg (eV 0) a ev (Zs n ts d dl e)=some (y,S'):=zcz (e_v he) (zar (i:=2) (d:=d) (j:=3) rfl) hm ha q
theorem sls1 {s q:Nat} (he:ev[1]? = some (some (.obj 1))) (hp:ev[6]? = some (some (.int s))) (hv:ev[9]? = some (some (.int q))) (hs:s≤q) (hq:q≤ts.length) (hl:ts.length≤2000):sSlSet (eV 1) (pE (eV 6)) (pE (eV 9)) (e1 opRev (eSlM (eV 1) (pE (eV 6)) (pE (eV 9)))) ev (Zs n ts d dl e)=some (.nx ev,Zs n (turn s q ts) d dl e) :=
 slSet_e (i:=1) (ts:=ts) (us:=((ts.take q).drop s).reverse) (e_1 (slM_e (i:=1) (ts:=ts) he hp hv rfl hs hq) rfl) he hp hv rfl hs hq hl (by rw [List.length_reverse,List.length_drop,List.length_take];omega)
theorem deed_ok {κ:Int} (hκ:Kx κ) {z:Int} (z0:0≤z) (z1:z < 998244353) (m:Mk 0 d ts h) (hl:ts.length < 1000) (hd:dl.length < 1000):∃n' ts' d' h' v,zfc [.obj 2,.obj 1,.obj 4,.int z,.int κ] (Zs n ts d dl dl)=some (.bl true,Zs n' ts' d' (dl++[v]) (dl++[v]))∧Mk 0 d' ts' h'∧ts'.length≤ts.length + 1∧Dd v:=by
 have w0:=Int.emod_nonneg z (show (5:Int)≠0 by decide)
 have w1:=Int.emod_lt_of_pos z (show (0:Int) < 5 by decide)
 have q0:0≤z / 5:=Int.ediv_nonneg z0 (by decide)
 have q1:z / 5 < 998244353:=by omega
 have r0:0≤z / 5 / 400:=Int.ediv_nonneg q0 (by decide)
 have r1:z / 5 / 400 < 1000000000000:=by omega
 obtain ⟨x,hx,cx⟩:=thing_ok (k:=0) hκ r0 r1
 obtain ⟨p,hp,cp⟩:=mod_nat (z / 5) ts.length
 have px:=pl_mono (m:=150) (by decide) (pl_thing hx)
 have len:∀(S:Sto),S[1]? = some (.lst ts)→lenD S [.obj 1]=some (.int (ts.length:Int)):=fun S hs=>by simp [lenD,hs]
 -- the first rows
 have head:∀{o':Out}{S':Sto}{c:C},c [some (.obj 2),some (.obj 1),some (.obj 4),some (.int (z / 5)),some (.int κ),some (.int (z % 5)),some (.int p),some x,none,none] (Zs n ts d dl dl)=some (o',S') →
     sSeq (sSet 5 (e2 zbb (eV 3) (eK (.int 5)))) (sSeq (sSet 3 (e2 zdi (eV 3) (eK (.int 5)))) (sSeq (sSet 6 (e2 zbb (eV 3) (e2 zbc (eA lenD (aC (eV 1) aN)) (eK (.int 1))))) (sSeq (sSet 7 (zak zcu (aC (e2 zdi (eV 3) (eK (.int 400))) (aC (eV 4) aN)))) c))) [some (.obj 2),some (.obj 1),some (.obj 4),some (.int z),some (.int κ),none,none,none,none,none] (Zs n ts d dl dl)=some (o',S'):=fun hc =>
   zah (zal (e_2 (e_v rfl) e_k (zdz (by decide)))) (zah (zal (e_2 (e_v rfl) e_k (div_e (by decide)))) (zah (zal (e_2 (e_v rfl) (e_2 (e_a (a_c (e_v rfl) a_n) (len _ rfl)) e_k (add_int _ _)) cp)) (zah (zal (zaf (a_c (e_2 (e_v rfl) e_k (div_e (by decide))) (a_c (e_v rfl) a_n)) (cx _))) hc)))
 have cnd:∀(c:Int),bAnd (bE (e2 opEq (eV 5) (eK (.int c)))) (bE (e2 opLt (eV 6) (eA lenD (aC (eV 1) aN)))) [some (.obj 2),some (.obj 1),some (.obj 4),some (.int (z / 5)),some (.int κ),some (.int (z % 5)),some (.int p),some x,none,none] (Zs n ts d dl dl)=some (decide (z % 5=c∧p < ts.length),Zs n ts d dl dl):=fun c=>by
   by_cases h1:z % 5=c
   · refine (b_andT (b_of (e_2 (e_v rfl) e_k ((eq_w _ _).trans (by rw [decide_eq_true h1])))) (b_of (e_2 (e_v rfl) (e_a (a_c (e_v rfl) a_n) (len _ rfl)) (lt_w _ _)))).trans ?_
     congr 2
     rw [decide_eq_decide]
     omega
   · refine (b_andF (b_of (e_2 (e_v rfl) e_k ((eq_w _ _).trans (by rw [decide_eq_false h1]))))).trans ?_
     rw [decide_eq_false (fun q=>h1 q.1)]
 have hl2:ts.length≤2000:=by omega
 have hd2:dl.length < 16777216:=by omega
 by_cases c0:z % 5=0∧p < ts.length
 · obtain ⟨d',h',n',co,m'⟩:=sh_out (n:=n) (ts:=ts) (R:=[.lst dl]) m hl2 c0.2 hd2
   have pe:=eq_pl (pl_mono (m:=150) (by decide) (pl_thing (m.things _ (List.getElem_mem c0.2))))
   refine ⟨n',ts.eraseIdx p,d',h',dOut p,b_rt rfl (head (zbz (zbr ((cnd 0).trans (congrArg (fun b=>some (b,Zs n ts d dl dl)) (decide_eq_true c0))) (zah (zal (meth2 rfl sl_out (a_c (e_v rfl) a_n) co)) (zah (app7 rfl (zey (a_c e_k (a_c (e_v rfl) a_n)) (Nat.le_of_ble_eq_true rfl)) hd2) (zax (e_2 (e_v rfl) (lm1 rfl (a_c (e_v rfl) a_n) (popAt_e c0.2 hl2)) pe))))))),m',?_,dd_out p⟩
   rw [List.length_eraseIdx]
   split <;> omega
 · by_cases c1:z % 5=1∧p < ts.length
   · obtain ⟨d',n',co,m'⟩:=sh_swap (n:=n) (ts:=ts.set p x) (R:=[.lst (dl++[dSwap p])]) m hl2 c1.2 hx hd2
     refine ⟨n',ts.set p x,d',h,dSwap p,b_rt rfl (head (zah (zaq ((cnd 0).trans (congrArg (fun b=>some (b,Zs n ts d dl dl)) (decide_eq_false c0)))) (zbz (zbr ((cnd 1).trans (congrArg (fun b=>some (b,Zs n ts d dl dl)) (decide_eq_true c1))) (zah (item1 rfl rfl rfl c1.2) (zah (app7 rfl (zey (a_c e_k (a_c (e_v rfl) a_n)) (Nat.le_of_ble_eq_true rfl)) hd2) (zax (e_2 (meth2 rfl sl_swap (a_c (e_v rfl) (a_c (e_v rfl) a_n)) co) e_k rfl)))))))),m',by rw [List.length_set];omega,dd_swap p⟩
   · by_cases c2:z % 5=2
     · obtain ⟨e,he,ce⟩:=mod_nat (z / 5 / 400) (ts.length - p)
       rw [show ((ts.length - p:Nat):Int) + 1=(ts.length:Int) + 1 - (p:Int) by omega] at ce
       have lr:(((ts.take (p + e)).drop p).reverse).length≤2000:=by
         rw [List.length_reverse,List.length_drop,List.length_take];omega
       obtain ⟨d',h',n',co,m'⟩:=sh_turned (n:=n) (ts:=turn p (p + e) ts) (R:=[.lst (dl++[dTurn p (p + e)])]) (p:=p) (q:=p + e) m hl2 (by omega) (by omega) hd2
       refine ⟨n',turn p (p + e) ts,d',h',dTurn p (p + e),b_rt rfl (head (zah (zaq ((cnd 0).trans (congrArg (fun b=>some (b,Zs n ts d dl dl)) (decide_eq_false c0)))) (zah (zaq ((cnd 1).trans (congrArg (fun b=>some (b,Zs n ts d dl dl)) (decide_eq_false c1)))) (zbz (zbr (b_of (e_2 (e_v rfl) e_k ((eq_w _ _).trans (by rw [decide_eq_true c2])))) (zah (zal (d:=.int ((p + e:Nat):Int)) (e_2 (e_v rfl) (e_2 (e_2 (e_v rfl) e_k (div_e (by decide))) (e_2 (e_2 (e_a (a_c (e_v rfl) a_n) (len _ rfl)) e_k (add_int _ _)) (e_v rfl) (sub_int _ _)) ce) rfl)) (zah (sls1 rfl rfl rfl (by omega) (by omega) hl2) (zah (app7 rfl (zey (a_c e_k (a_c (e_v rfl) (a_c (e_v rfl) a_n))) (Nat.le_of_ble_eq_true rfl)) hd2) (zax (e_2 (meth2 rfl zft (a_c (e_v rfl) (a_c (e_v rfl) a_n)) co) e_k rfl)))))))))),m',by rw [turn_len (by omega) (by omega)];omega,dd_turn p (p + e)⟩
     · obtain ⟨d',h',n',co,m'⟩:=sh_put (n:=n) (ts:=ts.take p++x::ts.drop p) (R:=[.lst (dl++[dPut p])]) m (by omega) hp hx hd2
       exact ⟨n',ts.take p++x::ts.drop p,d',h',dPut p,b_rt rfl (head (zah (zaq ((cnd 0).trans (congrArg (fun b=>some (b,Zs n ts d dl dl)) (decide_eq_false c0)))) (zah (zaq ((cnd 1).trans (congrArg (fun b=>some (b,Zs n ts d dl dl)) (decide_eq_false c1)))) (zah (zaq (b_of (e_2 (e_v rfl) e_k ((eq_w _ _).trans (by rw [decide_eq_false c2]))))) (zah (zdb (lm1 rfl (a_c (e_v rfl) (a_c (e_v rfl) a_n)) (insert_e hp hl2))) (zah (app7 rfl (zey (a_c e_k (a_c (e_v rfl) a_n)) (Nat.le_of_ble_eq_true rfl)) hd2) (zax (e_2 (meth2 rfl sl_put (a_c (e_v rfl) (a_c (e_v rfl) a_n)) co) e_k rfl)))))))),m',Nat.le_of_eq (put_len p),dd_put p⟩
end Pg
set_option maxHeartbeats 4000000
namespace Pg
open PySem L2 F Mt
variable {d d0 l r t x y o:D}{ts us dl e ks lt rt:List D}{h i j g lh rh:Nat}{n:Int}{S S0 S1 T:Sto}{ev:Ev}{cl:Str}
theorem sl_cut:(sfs d j).lookup ("cut":Str)=none:=sl_no (by decide +kernel) (by decide +kernel) (by decide +kernel)
theorem sl_laid:(sfs d j).lookup ("laid":Str)=none:=sl_no (by decide +kernel) (by decide +kernel) (by decide +kernel)
theorem methA_none {c m:Str}{g:G}{f:E}{a:As}{i:Nat}{fs:List (Str×D)} (h:f ev S=some (.obj i,S1)) (hi:zfp c S1 (.obj i)=some (i,fs)) (hm:fs.lookup m=none) (ha:a ev S1=none):zbh c m g f a ev S=none:=by simp [zbh,h,hi,hm,ha]
theorem a_none {f:E}{a:As} (h:f ev S=none):aC f a ev S=none:=by simp [aC,h]
theorem r_methA {c m:Str}{f:E}{q:R}{i:Nat}{fs:List (Str×D)} (h:f ev S=some (.obj i,S1)) (hi:zfp c S1 (.obj i)=some (i,fs)) (hm:fs.lookup m=none):rMethA c m f q ev S=q ev S1:=by simp [rMethA,h,hi,hm]
theorem at_no {p:Int} (m:Mk 0 d ts h) (hp:¬ (0≤p∧p < ts.length)) (S:Sto):Ref g_at r_at [d,.int p] NP S:=by
 obtain ⟨c1,c2⟩:=place_no hp S
 exact ⟨zdo (zfe (zbo (zcr (a_c (e_v rfl) (a_c (zaf (a_c (e_v rfl) a_n) (zbm m S)) a_n)) c1))),(zdk (n:=2) rfl).trans ((zfi (a_c (e_v rfl) (a_c (zaf (a_c (e_v rfl) a_n) (zbm m S)) a_n))).trans c2)⟩
theorem sput_no {p:D} (hT:T[i]? = some (shf d j)) (q:Ref g_put r_put [.obj 0,d,p,x] cl T):Ref zbt zcv [.obj i,p,x] cl T :=
 ⟨zdo (zbo (methA_none (e_v rfl) (zar hT) sl_hold (a_none (zcr (a_c (zfm rfl hT) (a_c (zed rfl hT) (a_c (e_v rfl) (a_c (e_v rfl) a_n)))) q.1)))),(zdk (n:=3) rfl).trans ((r_methA (e_v rfl) (zar hT) sl_hold).trans ((zfi (a_c (zfm rfl hT) (a_c (zed rfl hT) (a_c (e_v rfl) (a_c (e_v rfl) a_n))))).trans q.2))⟩
theorem sswap_no {p:D} (hT:T[i]? = some (shf d j)) (q:Ref g_swapped zev [.obj 0,d,p,x] cl T):Ref zdc zdx [.obj i,p,x] cl T :=
 ⟨zdo (zbo (methA_none (e_v rfl) (zar hT) sl_hold (a_none (zcr (a_c (zfm rfl hT) (a_c (zed rfl hT) (a_c (e_v rfl) (a_c (e_v rfl) a_n)))) q.1)))),(zdk (n:=3) rfl).trans ((r_methA (e_v rfl) (zar hT) sl_hold).trans ((zfi (a_c (zfm rfl hT) (a_c (zed rfl hT) (a_c (e_v rfl) (a_c (e_v rfl) a_n))))).trans q.2))⟩
theorem sturn_no {p:D} (hT:T[i]? = some (shf d j)) (q:Ref zdm zcs [.obj 0,d,p,x] cl T):Ref zbv zcj [.obj i,p,x] cl T :=
 ⟨zdo (zbo (methA_none (e_v rfl) (zar hT) sl_hold (a_none (zcr (a_c (zfm rfl hT) (a_c (zed rfl hT) (a_c (e_v rfl) (a_c (e_v rfl) a_n)))) q.1)))),(zdk (n:=3) rfl).trans ((r_methA (e_v rfl) (zar hT) sl_hold).trans ((zfi (a_c (zfm rfl hT) (a_c (zed rfl hT) (a_c (e_v rfl) (a_c (e_v rfl) a_n))))).trans q.2))⟩
theorem sout_no {p:D} (hT:T[i]? = some (shf d j)) (q:Ref g_at r_at [d,p] cl T):Ref zci zep [.obj i,p] cl T :=
 ⟨zdo (zfe (set_none (zcr (a_c (zed rfl hT) (a_c (e_v rfl) a_n)) q.1))),(zdk (n:=2) rfl).trans (r_orL ((zfi (a_c (zed rfl hT) (a_c (e_v rfl) a_n))).trans q.2))⟩
theorem scut_no {p:D} (hT:T[i]? = some (shf d j)) (q:Ref g_cut r_cut [.obj 0,d,p] cl T):Ref g_Shelf_cut zeq [.obj i,p] cl T :=
 ⟨zdo (zfe (set_none (zcr (a_c (zfm rfl hT) (a_c (zed rfl hT) (a_c (e_v rfl) a_n))) q.1))),(zdk (n:=2) rfl).trans ((zfi (a_c (zfm rfl hT) (a_c (zed rfl hT) (a_c (e_v rfl) a_n)))).trans q.2)⟩
theorem slaid_no {i2 j2:Nat} (hT:T[i]? = some (shf d j)) (h2:T[i2]? = some (shf o j2)) (q:Ref g_laid r_laid [.obj 0,d,o] cl T):Ref zde zdy [.obj i,.obj i2] cl T :=
 ⟨zdo (zfg (zal (make_e rfl h2)) (zbo (methA_none (e_v rfl) (zar hT) sl_hold (a_none (zcr (a_c (zfm rfl hT) (a_c (zed rfl hT) (a_c (e_v rfl) a_n))) q.1))))),(zdk (n:=2) rfl).trans ((r_seq (zal (make_e rfl h2))).trans ((r_methA (e_v rfl) (zar hT) sl_hold).trans ((zfi (a_c (zfm rfl hT) (a_c (zed rfl hT) (a_c (e_v rfl) a_n)))).trans q.2)))⟩
theorem p30:opPow (.int 10) (.int 30)=some (.int (10 ^ 30)):=by
 have:powI 10 30=some (10 ^ 30):=by unfold powI;rw [if_pos (by decide)];rfl
 simp only [opPow,F.opI,this];rfl
theorem pick2 {a b z:Int} (S:Sto) (h0:0≤z) (h1:z < 2):∃v:Int,(v=a∨v=b)∧opIx S (.lst [.int a,.int b]) (.int z)=some (.int v):=by
 have:z=0∨z=1:=by omega
 rcases this with rfl | rfl
 · exact ⟨a,.inl rfl,rfl⟩
 · exact ⟨b,.inr rfl,rfl⟩
theorem pick4 {a b c d z:Int} (S:Sto) (h0:0≤z) (h1:z < 4):∃v:Int,(v=a∨v=b∨v=c∨v=d)∧opIx S (.lst [.int a,.int b,.int c,.int d]) (.int z)=some (.int v):=by
 have:z=0∨z=1∨z=2∨z=3:=by omega
 rcases this with rfl | rfl | rfl | rfl
 · exact ⟨a,.inl rfl,rfl⟩
 · exact ⟨b,.inr (.inl rfl),rfl⟩
 · exact ⟨c,.inr (.inr (.inl rfl)),rfl⟩
 · exact ⟨d,.inr (.inr (.inr rfl)),rfl⟩
theorem if_l {c:B}{a b:C} (h:c ev S=some (true,S1)) (q:a ev S1=none):sIf c a b ev S=none:=by simp [sIf,h,q]
theorem if_r {c:B}{a b:C} (h:c ev S=some (false,S1)) (q:b ev S1=none):sIf c a b ev S=none:=by simp [sIf,h,q]
theorem yesW {w c:Int}{q:Nat} (he:ev[q]? = some (some (.int w))) (h:w=c):bE (e2 opEq (eV q) (eK (.int c))) ev S=some (true,S):=b_of (e_2 (e_v he) e_k ((eq_w _ _).trans (by rw [decide_eq_true h])))
theorem noW {w c:Int}{q:Nat} (he:ev[q]? = some (some (.int w))) (h:¬ w=c):bE (e2 opEq (eV q) (eK (.int c))) ev S=some (false,S):=b_of (e_2 (e_v he) e_k ((eq_w _ _).trans (by rw [decide_eq_false h])))
theorem bad_ok {w z:Int} (hT:T[i]? = some (shf d j)) (m:Mk 0 d us h) (w0:0≤w) (w1:w < 7) (z0:0≤z) (z1:z < 998244353):Ref g__law_bad zez [.obj i,.int w,.int z,.int us.length] NP T:=by
 have a0:=Int.emod_nonneg z (show (5:Int)≠0 by decide)
 have a1:=Int.emod_lt_of_pos z (show (0:Int) < 5 by decide)
 have b0:=Int.emod_nonneg (z / 5) (show (4:Int)≠0 by decide)
 have b1:=Int.emod_lt_of_pos (z / 5) (show (0:Int) < 4 by decide)
 have c0:=Int.emod_nonneg (z / 20) (show (2:Int)≠0 by decide)
 have c1:=Int.emod_lt_of_pos (z / 20) (show (0:Int) < 2 by decide)
 have d0:=Int.emod_nonneg z (show (2:Int)≠0 by decide)
 have d1:=Int.emod_lt_of_pos z (show (0:Int) < 2 by decide)
 have e0:=Int.emod_nonneg z (show (3:Int)≠0 by decide)
 have e1x:=Int.emod_lt_of_pos z (show (0:Int) < 3 by decide)
 have f0:=Int.emod_nonneg z (show (4:Int)≠0 by decide)
 have g0:0≤z * 10 ^ 30:=Int.mul_nonneg z0 (by decide)
 generalize hgr:z * 10 ^ 30=gr at g0
 obtain ⟨p,hp,cp⟩:=pick4 (a:=-1 - z % 5) (b:=(us.length:Int) + 1 + z % 5) (c:=(us.length:Int) + (1 + gr)) (d:=0 - (1 + gr)) T b0 b1
 obtain ⟨q,hq,cq⟩:=pick2 (a:=p) (b:=(us.length:Int)) T c0 c1
 obtain ⟨s,hs,cs⟩:=pick2 (a:=0) (b:=p) T d0 d1
 have np:¬ (0≤p∧p < (us.length + 1:Nat)):=by omega
 have nq:¬ (0≤q∧q < us.length):=by omega
 have ns:¬ (0≤s∧s≤p∧p≤us.length):=by omega
 have mm:opMul (.int z) (.int (10 ^ 30))=some (.int gr):=by rw [← hgr];exact mul_eL (by omega)
 have s4:sSet 4 (e2 zbc (eK (.int 1)) (e2 opMul (eV 2) (e2 opPow (eK (.int 10)) (eK (.int 30))))) [some (.obj i),some (.int w),some (.int z),some (.int us.length),none,none,none] T=some (.nx [some (.obj i),some (.int w),some (.int z),some (.int us.length),some (.int (1 + gr)),none,none],T):=zal (e_2 e_k (e_2 (e_v rfl) (e_2 e_k e_k p30) mm) (add_int _ _))
 have s5:sSet 5 (e2s opIx (eLst (aC (e2 zdu (e1 negD (eK (.int 1))) (e2 zbb (eV 2) (eK (.int 5)))) (aC (e2 zbc (e2 zbc (eV 3) (eK (.int 1))) (e2 zbb (eV 2) (eK (.int 5)))) (aC (e2 zbc (eV 3) (eV 4)) (aC (e2 zdu (eK (.int 0)) (eV 4)) aN))))) (e2 zbb (e2 zdi (eV 2) (eK (.int 5))) (eK (.int 4)))) [some (.obj i),some (.int w),some (.int z),some (.int us.length),some (.int (1 + gr)),none,none] T=some (.nx [some (.obj i),some (.int w),some (.int z),some (.int us.length),some (.int (1 + gr)),some (.int p),none],T) :=
   zal (e_2s (e_lst (a_c (e_2 (e_1 e_k rfl) (e_2 (e_v rfl) e_k (zdz (by decide))) (sub_int _ _)) (a_c (e_2 (e_2 (e_v rfl) e_k (add_int _ _)) (e_2 (e_v rfl) e_k (zdz (by decide))) (add_int _ _)) (a_c (e_2 (e_v rfl) (e_v rfl) (add_int _ _)) (a_c (e_2 e_k (e_v rfl) (sub_int _ _)) a_n)))) (Nat.le_of_ble_eq_true rfl)) (e_2 (e_2 (e_v rfl) e_k (div_e (by decide))) e_k (zdz (by decide))) cp)
 have s6:sSet 6 (e2s opIx (eLst (aC (eV 5) (aC (eV 3) aN))) (e2 zbb (e2 zdi (eV 2) (eK (.int 20))) (eK (.int 2)))) [some (.obj i),some (.int w),some (.int z),some (.int us.length),some (.int (1 + gr)),some (.int p),none] T=some (.nx [some (.obj i),some (.int w),some (.int z),some (.int us.length),some (.int (1 + gr)),some (.int p),some (.int q)],T) :=
   zal (e_2s (e_lst (a_c (e_v rfl) (a_c (e_v rfl) a_n)) (Nat.le_of_ble_eq_true rfl)) (e_2 (e_2 (e_v rfl) e_k (div_e (by decide))) e_k (zdz (by decide))) cq)
 have pre:∀{c:C},c [some (.obj i),some (.int w),some (.int z),some (.int us.length),some (.int (1 + gr)),some (.int p),some (.int q)] T=none→sSeq (sSet 4 (e2 zbc (eK (.int 1)) (e2 opMul (eV 2) (e2 opPow (eK (.int 10)) (eK (.int 30)))))) (sSeq (sSet 5 (e2s opIx (eLst (aC (e2 zdu (e1 negD (eK (.int 1))) (e2 zbb (eV 2) (eK (.int 5)))) (aC (e2 zbc (e2 zbc (eV 3) (eK (.int 1))) (e2 zbb (eV 2) (eK (.int 5)))) (aC (e2 zbc (eV 3) (eV 4)) (aC (e2 zdu (eK (.int 0)) (eV 4)) aN))))) (e2 zbb (e2 zdi (eV 2) (eK (.int 5))) (eK (.int 4))))) (sSeq (sSet 6 (e2s opIx (eLst (aC (eV 5) (aC (eV 3) aN))) (e2 zbb (e2 zdi (eV 2) (eK (.int 20))) (eK (.int 2))))) c)) [some (.obj i),some (.int w),some (.int z),some (.int us.length),none,none,none] T=none:=fun hc=>zfg s4 (zfg s5 (zfg s6 hc))
 have rpre:∀{c:R},c [some (.obj i),some (.int w),some (.int z),some (.int us.length),some (.int (1 + gr)),some (.int p),some (.int q)] T=some (NP,T)→rSeq (sSet 4 (e2 zbc (eK (.int 1)) (e2 opMul (eV 2) (e2 opPow (eK (.int 10)) (eK (.int 30)))))) (rSeq (sSet 5 (e2s opIx (eLst (aC (e2 zdu (e1 negD (eK (.int 1))) (e2 zbb (eV 2) (eK (.int 5)))) (aC (e2 zbc (e2 zbc (eV 3) (eK (.int 1))) (e2 zbb (eV 2) (eK (.int 5)))) (aC (e2 zbc (eV 3) (eV 4)) (aC (e2 zdu (eK (.int 0)) (eV 4)) aN))))) (e2 zbb (e2 zdi (eV 2) (eK (.int 5))) (eK (.int 4))))) (rSeq (sSet 6 (e2s opIx (eLst (aC (eV 5) (aC (eV 3) aN))) (e2 zbb (e2 zdi (eV 2) (eK (.int 20))) (eK (.int 2))))) c)) [some (.obj i),some (.int w),some (.int z),some (.int us.length),none,none,none] T=some (NP,T):=fun hc=>(r_seq s4).trans ((r_seq s5).trans ((r_seq s6).trans hc))
 have ns4:¬ (0≤1 + z % 3∧1 + z % 3≤z / 3 % (1 + z % 3)∧z / 3 % (1 + z % 3)≤us.length):=by
   have:=Int.emod_lt_of_pos (z / 3) (show 0 < 1 + z % 3 by omega)
   omega
 have ns5:¬ (0≤(us.length:Int) + 1 + z % 4∧(us.length:Int) + 1 + z % 4≤(us.length:Int)∧(us.length:Int)≤us.length):=by omega
 by_cases h0:w=0
 · have k:=sput_no (x:=.str (Str.ofString "a")) hT (put_no m np (.obj 0) (.str (Str.ofString "a")) T)
   exact ⟨zdo (pre (if_l (yesW rfl h0) (zbo (zej (e_v rfl) (zar hT) sl_put (a_c (e_v rfl) (a_c e_k a_n)) k.1)))),(zdk (n:=4) rfl).trans (rpre ((r_if_t (yesW rfl h0)).trans ((r_meth (e_v rfl) (zar hT) sl_put (a_c (e_v rfl) (a_c e_k a_n))).trans k.2)))⟩
 by_cases h1:w=1
 · have k:=sout_no hT (at_no m nq T)
   exact ⟨zdo (pre (if_r (noW rfl h0) (if_l (yesW rfl h1) (zbo (zej (e_v rfl) (zar hT) sl_out (a_c (e_v rfl) a_n) k.1))))),(zdk (n:=4) rfl).trans (rpre ((zdw (noW rfl h0)).trans ((r_if_t (yesW rfl h1)).trans ((r_meth (e_v rfl) (zar hT) sl_out (a_c (e_v rfl) a_n)).trans k.2))))⟩
 by_cases h2:w=2
 · have k:=sswap_no (x:=.str (Str.ofString "a")) hT (swapped_no m nq (.obj 0) (.str (Str.ofString "a")) T)
   exact ⟨zdo (pre (if_r (noW rfl h0) (if_r (noW rfl h1) (if_l (yesW rfl h2) (zbo (zej (e_v rfl) (zar hT) sl_swap (a_c (e_v rfl) (a_c e_k a_n)) k.1)))))),(zdk (n:=4) rfl).trans (rpre ((zdw (noW rfl h0)).trans ((zdw (noW rfl h1)).trans ((r_if_t (yesW rfl h2)).trans ((r_meth (e_v rfl) (zar hT) sl_swap (a_c (e_v rfl) (a_c e_k a_n))).trans k.2)))))⟩
 by_cases h3:w=3
 · have k:=sturn_no hT (turned_part_no m ns (.obj 0) T)
   have ar:(aC (e2s opIx (eLst (aC (eK (.int 0)) (aC (eV 5) aN))) (e2 zbb (eV 2) (eK (.int 2)))) (aC (eV 5) aN)) [some (.obj i),some (.int w),some (.int z),some (.int us.length),some (.int (1 + gr)),some (.int p),some (.int q)] T=some ([.int s,.int p],T):=a_c (e_2s (e_lst (a_c e_k (a_c (e_v rfl) a_n)) (Nat.le_of_ble_eq_true rfl)) (e_2 (e_v rfl) e_k (zdz (by decide))) cs) (a_c (e_v rfl) a_n)
   exact ⟨zdo (pre (if_r (noW rfl h0) (if_r (noW rfl h1) (if_r (noW rfl h2) (if_l (yesW rfl h3) (zbo (zej (e_v rfl) (zar hT) zft ar k.1))))))),(zdk (n:=4) rfl).trans (rpre ((zdw (noW rfl h0)).trans ((zdw (noW rfl h1)).trans ((zdw (noW rfl h2)).trans ((r_if_t (yesW rfl h3)).trans ((r_meth (e_v rfl) (zar hT) zft ar).trans k.2))))))⟩
 by_cases h4:w=4
 · have k:=sturn_no hT (turned_part_no m ns4 (.obj 0) T)
   have ar:(aC (e2 zbc (eK (.int 1)) (e2 zbb (eV 2) (eK (.int 3)))) (aC (e2 zbb (e2 zdi (eV 2) (eK (.int 3))) (e2 zbc (eK (.int 1)) (e2 zbb (eV 2) (eK (.int 3))))) aN)) [some (.obj i),some (.int w),some (.int z),some (.int us.length),some (.int (1 + gr)),some (.int p),some (.int q)] T=some ([.int (1 + z % 3),.int (z / 3 % (1 + z % 3))],T):=a_c (e_2 e_k (e_2 (e_v rfl) e_k (zdz (by decide))) (add_int _ _)) (a_c (e_2 (e_2 (e_v rfl) e_k (div_e (by decide))) (e_2 e_k (e_2 (e_v rfl) e_k (zdz (by decide))) (add_int _ _)) (zdz (by omega))) a_n)
   exact ⟨zdo (pre (if_r (noW rfl h0) (if_r (noW rfl h1) (if_r (noW rfl h2) (if_r (noW rfl h3) (if_l (yesW rfl h4) (zbo (zej (e_v rfl) (zar hT) zft ar k.1)))))))),(zdk (n:=4) rfl).trans (rpre ((zdw (noW rfl h0)).trans ((zdw (noW rfl h1)).trans ((zdw (noW rfl h2)).trans ((zdw (noW rfl h3)).trans ((r_if_t (yesW rfl h4)).trans ((r_meth (e_v rfl) (zar hT) zft ar).trans k.2)))))))⟩
 by_cases h5:w=5
 · have k:=sturn_no hT (turned_part_no m ns5 (.obj 0) T)
   have ar:(aC (e2 zbc (e2 zbc (eV 3) (eK (.int 1))) (e2 zbb (eV 2) (eK (.int 4)))) (aC (eV 3) aN)) [some (.obj i),some (.int w),some (.int z),some (.int us.length),some (.int (1 + gr)),some (.int p),some (.int q)] T=some ([.int ((us.length:Int) + 1 + z % 4),.int us.length],T):=a_c (e_2 (e_2 (e_v rfl) e_k (add_int _ _)) (e_2 (e_v rfl) e_k (zdz (by decide))) (add_int _ _)) (a_c (e_v rfl) a_n)
   exact ⟨zdo (pre (if_r (noW rfl h0) (if_r (noW rfl h1) (if_r (noW rfl h2) (if_r (noW rfl h3) (if_r (noW rfl h4) (if_l (yesW rfl h5) (zbo (zej (e_v rfl) (zar hT) zft ar k.1))))))))),(zdk (n:=4) rfl).trans (rpre ((zdw (noW rfl h0)).trans ((zdw (noW rfl h1)).trans ((zdw (noW rfl h2)).trans ((zdw (noW rfl h3)).trans ((zdw (noW rfl h4)).trans ((r_if_t (yesW rfl h5)).trans ((r_meth (e_v rfl) (zar hT) zft ar).trans k.2))))))))⟩
 · have k:=scut_no hT (cut_no m np (.obj 0) T)
   exact ⟨zdo (pre (if_r (noW rfl h0) (if_r (noW rfl h1) (if_r (noW rfl h2) (if_r (noW rfl h3) (if_r (noW rfl h4) (if_r (noW rfl h5) (zbo (zej (e_v rfl) (zar hT) sl_cut (a_c (e_v rfl) a_n) k.1))))))))),(zdk (n:=4) rfl).trans (rpre ((zdw (noW rfl h0)).trans ((zdw (noW rfl h1)).trans ((zdw (noW rfl h2)).trans ((zdw (noW rfl h3)).trans ((zdw (noW rfl h4)).trans ((zdw (noW rfl h5)).trans ((r_meth (e_v rfl) (zar hT) sl_cut (a_c (e_v rfl) a_n)).trans k.2))))))))⟩
theorem kind_place (hj:S[j]? = some (.exc NP)):zbq [.obj j] S=some (.str (Str.ofString "place"),S):=by
 have i1:up.ask NP (.tup [.fn "Changed",.fn "NoBalance",.fn "NoMore",.fn "NoName",.fn "NoNumber",.fn "NoRow",.fn "NoSum",.fn "NoThing",.fn "NoWay"])=some false:=by decide +kernel
 have i2:up.ask NP (.fn "NoPlace")=some true:=by decide +kernel
 have i3:up.ask NP (.fn "TooMany")=some false:=by decide +kernel
 have i4:up.ask NP (.ty "ValueError")=some true:=by decide +kernel
 exact b_rt rfl (zah (zaq (b_of (e_a (a_c (e_v rfl) (a_c (zey (a_c e_k (a_c e_k (a_c e_k (a_c e_k (a_c e_k (a_c e_k (a_c e_k (a_c e_k (a_c e_k a_n))))))))) (Nat.le_of_ble_eq_true rfl)) a_n)) (isx hj i1)))) (zah (zal (e_lst (a_c (e_a (a_c (e_v rfl) (a_c e_k a_n)) (isx hj i2)) (a_c (e_a (a_c (e_v rfl) (a_c e_k a_n)) (isx hj i3)) a_n)) (Nat.le_of_ble_eq_true rfl))) (zah (zaq (b_orF (b_of (e_2 (e_a (a_c (e_v rfl) a_n) rfl) e_k rfl)) (b_nT (b_of (e_a (a_c (e_v rfl) (a_c e_k a_n)) (isx hj i4)))))) (zax (e_2s (e_lst (a_c e_k (a_c e_k a_n)) (Nat.le_of_ble_eq_true rfl)) (e_a (a_c (e_2s (e_v rfl) e_k rfl) a_n) rfl) rfl)))))
theorem kind_many (hj:S[j]? = some (.exc TM)):zbq [.obj j] S=some (.str (Str.ofString "many"),S):=by
 have i1:up.ask TM (.tup [.fn "Changed",.fn "NoBalance",.fn "NoMore",.fn "NoName",.fn "NoNumber",.fn "NoRow",.fn "NoSum",.fn "NoThing",.fn "NoWay"])=some false:=by decide +kernel
 have i2:up.ask TM (.fn "NoPlace")=some false:=by decide +kernel
 have i3:up.ask TM (.fn "TooMany")=some true:=by decide +kernel
 have i4:up.ask TM (.ty "ValueError")=some true:=by decide +kernel
 exact b_rt rfl (zah (zaq (b_of (e_a (a_c (e_v rfl) (a_c (zey (a_c e_k (a_c e_k (a_c e_k (a_c e_k (a_c e_k (a_c e_k (a_c e_k (a_c e_k (a_c e_k a_n))))))))) (Nat.le_of_ble_eq_true rfl)) a_n)) (isx hj i1)))) (zah (zal (e_lst (a_c (e_a (a_c (e_v rfl) (a_c e_k a_n)) (isx hj i2)) (a_c (e_a (a_c (e_v rfl) (a_c e_k a_n)) (isx hj i3)) a_n)) (Nat.le_of_ble_eq_true rfl))) (zah (zaq (b_orF (b_of (e_2 (e_a (a_c (e_v rfl) a_n) rfl) e_k rfl)) (b_nT (b_of (e_a (a_c (e_v rfl) (a_c e_k a_n)) (isx hj i4)))))) (zax (e_2s (e_lst (a_c e_k (a_c e_k a_n)) (Nat.le_of_ble_eq_true rfl)) (e_a (a_c (e_2s (e_v rfl) e_k rfl) a_n) rfl) rfl)))))
theorem frz_p {g:G}{ds:List D}{J:Sto} (h:∀m,bnd m x=true) (ho:∀q,x≠.obj q) (hS:SB S) (hg:g ds S=some (x,S++J)):frz g ds S=some (x,S):=by
 have e1:(S++J).take S.length=S:=List.take_left
 have e2:S.all (bndM S.length)=true:=List.all_eq_true.mpr hS
 unfold frz
 rw [hg]
 simp only [Option.bind_some,e1,e2,if_true]
 cases x with
 | obj q=>exact absurd rfl (ho q)
 | _=>simp only [h,if_true]
theorem catP:up.cat NP=true:=by decide +kernel
theorem catM:up.cat TM=true:=by decide +kernel
theorem refused_ok {w z:Int} (sb:SB T) (hT:T[i]? = some (shf d j)) (m:Mk 0 d us h) (w0:0≤w) (w1:w < 7) (z0:0≤z) (z1:z < 998244353):zdr [.obj i,.int w,.int z,.int us.length] T=some (.bl true,T):=by
 have k:=bad_ok (w:=w) (z:=z) hT m w0 w1 z0 z1
 exact frz_p (J:=[.exc NP]) (fun _=>rfl) (fun q h=>by cases h) sb (b_rt rfl (zah (zal e_k) (zah (st_tryR (zbo (zcr (a_c (e_v rfl) (a_c (e_v rfl) (a_c (e_v rfl) (a_c (e_v rfl) a_n)))) k.1)) ((zfi (a_c (e_v rfl) (a_c (e_v rfl) (a_c (e_v rfl) (a_c (e_v rfl) a_n))))).trans k.2) catP (zal (e_v rfl))) (zax (e_2 (zaf (a_c (e_v rfl) a_n) (kind_place (last_at T (.exc NP)))) e_k rfl)))))
end Pg
set_option maxHeartbeats 4000000
namespace Pg
open PySem L2 F Mt
section
variable {k:Nat} [Kd k] {d l r t x y:D}{ts lt rt:List D}{h lh rh i:Nat}{n:Int}{S S0 S1:Sto}{P:D→Prop}
mutual
theorem bnd_up {m:Nat}:∀{d:D},bnd 0 d=true→bnd m d=true
 | .obj i,hb=>by unfold bnd at hb;simp at hb
 | .tup ds,hb=>by unfold bnd at hb ⊢;exact bndL_up hb
 | .lst ds,hb=>by unfold bnd at hb ⊢;exact bndL_up hb
 | .non,_=>by unfold bnd;rfl
 | .bl _,_=>by unfold bnd;rfl
 | .int _,_=>by unfold bnd;rfl
 | .str _,_=>by unfold bnd;rfl
 | .fn _,_=>by unfold bnd;rfl
 | .ty _,_=>by unfold bnd;rfl
 | .lam _,_=>by unfold bnd;rfl
 | .clo _ ds,hb=>by unfold bnd at hb ⊢;exact bndL_up hb
theorem bndL_up {m:Nat}:∀{ds:List D},bndL 0 ds=true→bndL m ds=true
 | [],_=>rfl
 | d::ds,hb=>by
   unfold bndL at hb ⊢
   obtain ⟨h1,h2⟩:=Bool.and_eq_true_iff.mp hb
   rw [bnd_up h1,bndL_up h2];rfl
end
theorem bndL_of {m:Nat}:∀{ds:List D},(∀x∈ds,bnd m x=true)→bndL m ds=true
 | [],_=>rfl
 | d::ds,hb=>by
   unfold bndL
   rw [hb d (List.mem_cons_self ..),bndL_of fun x hx=>hb x (List.mem_cons_of_mem _ hx)];rfl
theorem bnd_sum (hx:∀x∈ts,Thing k x):bnd 0 (sumD k ts)=true:=by
 by_cases hk:k=0
 · subst hk;rw [sumD_zero];rfl
 · cases ts with
   | nil=>rfl
   | cons t ts =>
     have q:=sv_th (th_sum hk (by simp) hx)
     generalize sumD k (t::ts)=z at q ⊢
     cases q with
     | non=>rfl
     | int i=>rfl
     | str z=>rfl
     | pair a b=>rfl
theorem Mk.bnd0 (m:Mk k d ts h):bnd 0 d=true:=by
 induction m with
 | non=>rfl
 | @node num a l t r lt rt lh rh ml mr ht h1 h2 i1 i2 =>
   have hth:∀x∈ord a (lt++t::rt),Thing k x:=(Mk.node (num:=num) (a:=a) ml mr ht h1 h2).things
   unfold mkD
   unfold bnd
   simp only [bndL,i1,i2,bnd_thing ht,bnd_sum hth,bnd_sum (rev_th hth),Bool.and_true]
   simp [bnd]
end
variable {d d0 l r t x y o:D}{ts us dl e ks lt rt:List D}{h i j g lh rh:Nat}{n:Int}{S S0 S1 R T:Sto}{ev:Ev}
theorem shf_bnd {m q:Nat} (hm:q < m) (hd:bnd 0 d=true):bndM m (shf d q)=true:=by
 show (bnd m (.obj 0) && (bnd m d && (bnd m (.obj q) && true)))=true
 rw [bnd_up hd]
 simp [bnd]
 omega
theorem neO_self {S:Sto}{a b:D}{us:List D} (ha:seeL S a=some us) (hb:seeL S b=some us) (h1:bndL 0 us=true) (h2:pl 150 (.lst us)=true):opNeO S a b=some (.bl false):=by
 unfold opNeO
 simp only [ha,hb,Option.bind_some]
 rw [if_pos ⟨h1,h1⟩]
 exact ne_pl h2
theorem pl_dl (hd:∀x∈dl,Dd x):pl 150 (.lst dl)=true:=pl_mono (n:=3) (by decide) (List.all_eq_true.mpr fun x hx=>(hd x hx).2)
def F0 (n:Int) (d:D) (dl:List D) (R:Sto):Sto:=wd (addv 0) n::shf d 2::.lst dl::R
theorem hold_f (hl:dl.length < 16777216):zam [.obj 1,x,y] (F0 n d dl R)=some (.non,F0 n x (dl++[y]) R) :=
 b_nx rfl (zah (st_held (S1:=F0 n d dl R) rfl (e_v rfl) rfl) (st_appendF (j:=2) (us:=dl) (S:=F0 n x dl R) (e_fld (e_v rfl) (zar (S:=F0 n x dl R) (i:=1) (d:=x) (j:=2) rfl) sl_done) rfl (e_v rfl) hl))
theorem hold_fe {a b:E}{n':Int} (he:ev[0]? = some (some (.obj 1))) (ha:a ev (F0 n d dl R)=some (x,F0 n' d dl R)) (hb:b ev (F0 n' d dl R)=some (y,F0 n' d dl R)) (hl:dl.length < 16777216):zbh "Shelf" "hold" zam (eV 0) (aC a (aC b aN)) ev (F0 n d dl R)=some (.non,F0 n' x (dl++[y]) R) :=
 zcz (e_v he) (zar (S:=F0 n d dl R) (i:=1) (d:=d) (j:=2) rfl) sl_hold (a_c ha (a_c hb a_n)) (hold_f hl)
theorem hf1:(F0 n d dl R)[1]? = some (shf d 2):=rfl
theorem f_eq {new:List D}{T:Sto} (w:Wt 0 0 (F0 n d dl R) n new T):T=F0 (n + new.length) d dl R:=wt_eq w
theorem shf_out {p:Nat} (m:Mk 0 d us h) (hl:us.length≤2000) (hp:p < us.length) (hd:dl.length < 16777216):∃d' h' n',zci [.obj 1,.int p] (F0 n d dl R)=some (us[p],F0 n' d' (dl++[dOut p]) R)∧Mk 0 d' (us.eraseIdx p) h':=by
 obtain ⟨d',h',new,T1,c,rr,few⟩:=out_ok (k:=0) (i:=0) (S:=F0 n d dl R) (n:=n) rfl m hl hp (all_T m)
 have eT:=f_eq rr.wt
 subst eT
 exact ⟨d',h',n + new.length,b_rt rfl (zah (zal (zaf (a_c (zed rfl hf1) (a_c (e_v rfl) a_n)) (at_ok m hl (List.getElem?_eq_getElem hp) _))) (zah (zdb (hold_fe rfl (zaf (a_c (zfm rfl hf1) (a_c (zed rfl hf1) (a_c (e_v rfl) a_n))) c) (zey (a_c e_k (a_c (e_v rfl) a_n)) (Nat.le_of_ble_eq_true rfl)) hd)) (zax (e_v rfl)))),rr.mm⟩
theorem shf_put {p:Nat} (m:Mk 0 d us h) (hl:us.length < 2000) (hp:p≤us.length) (ht:Thing 0 x) (hd:dl.length < 16777216):∃d' h' n',zbt [.obj 1,.int p,x] (F0 n d dl R)=some (.non,F0 n' d' (dl++[dPut p]) R)∧Mk 0 d' (us.take p++x::us.drop p) h':=by
 obtain ⟨d',h',new,T1,c,rr,few⟩:=put_ok (k:=0) (i:=0) (S:=F0 n d dl R) (n:=n) rfl m hl hp ht (all_T m)
 have eT:=f_eq rr.wt
 subst eT
 exact ⟨d',h',n + new.length,b_nx rfl (zdb (hold_fe rfl (zaf (a_c (zfm rfl hf1) (a_c (zed rfl hf1) (a_c (e_v rfl) (a_c (e_v rfl) a_n)))) c) (zey (a_c e_k (a_c (e_v rfl) a_n)) (Nat.le_of_ble_eq_true rfl)) hd)),rr.mm⟩

def dLaid (p:Nat):D:=.tup [.str (Str.ofString "laid"),.int p]
theorem shf_laid {q j:Nat} (hq:(F0 n d dl R)[q]? = some (shf o j)) (m:Mk 0 d us h) (mo:Mk 0 o rt rh) (hl:us.length + rt.length≤2000) (hd:dl.length < 16777216):∃d' h' n',zde [.obj 1,.obj q] (F0 n d dl R)=some (.non,F0 n' d' (dl++[dLaid rt.length]) R)∧Mk 0 d' (us++rt) h':=by
 obtain ⟨d',h',new,T1,c,rr,few⟩:=laid_fn_ok (k:=0) (i:=0) (S:=F0 n d dl R) (n:=n) rfl m mo hl (all_T m) (all_T mo)
 have eT:=f_eq rr.wt
 subst eT
 exact ⟨d',h',n + new.length,b_nx rfl (zah (zal (make_e rfl hq)) (zdb (hold_fe rfl (zaf (a_c (zfm rfl hf1) (a_c (zed rfl hf1) (a_c (e_v rfl) a_n))) c) (zey (a_c e_k (a_c (zaf (a_c (e_v rfl) a_n) (zbm mo _)) a_n)) (Nat.le_of_ble_eq_true rfl)) hd))),rr.mm⟩
theorem f_sb (m:Mk 0 d us h) (hd:∀x∈dl,Dd x) (hR:∀z∈R,bndM (R.length + 3) z=true):SB (F0 n d dl R):=fun z hz=>by
 show bndM (R.length + 3) z=true
 rcases List.mem_cons.mp hz with rfl | hz
 · exact wd_bnd (k:=0) _ _
 rcases List.mem_cons.mp hz with rfl | hz
 · exact shf_bnd (by omega) (Mk.bnd0 m)
 rcases List.mem_cons.mp hz with rfl | hz
 · exact bndL_up (bndL_of fun v hv=>(hd v hv).1)
 exact hR z hz
theorem more_laid {i2 j2:Nat}{z:Int} (sb:SB T) (hT:T[i]? = some (shf d j)) (h2:T[i2]? = some (shf o j2)) (m:Mk 0 d us h) (mo:Mk 0 o rt rh) (l1:2000 < us.length + rt.length) (l2:us.length + rt.length < 10000):zdg [.obj i,.obj i2,.int z] T=some (.str (Str.ofString "many"),T):=by
 have k:=slaid_no hT h2 (laid_many m mo l1 l2 (.obj 0) T)
 have c0:bE (e2 opIs (eV 1) (eK .non)) [some (.obj i),some (.obj i2),some (.int z),some .non,none] T=some (false,T):=b_of (e_2 (e_v rfl) e_k rfl)
 exact frz_p (J:=[.exc TM]) (fun _=>rfl) (fun q h=>by cases h) sb (b_rt rfl (zah (zal e_k) (zah (st_tryR (if_r c0 (zbo (zej (e_v rfl) (zar hT) sl_laid (a_c (e_v rfl) a_n) k.1))) ((zdw c0).trans ((r_meth (e_v rfl) (zar hT) sl_laid (a_c (e_v rfl) a_n)).trans k.2)) catM (zal (e_v rfl))) (zax (zaf (a_c (e_v rfl) a_n) (kind_many (last_at T (.exc TM))))))))
theorem more_put {z:Nat} (sb:SB T) (hT:T[i]? = some (shf d j)) (m:Mk 0 d us h) (hu:us.length=2000) (hz:z≤2000):zdg [.obj i,.non,.int z] T=some (.str (Str.ofString "many"),T):=by
 have k:=sput_no (x:=.str (Str.ofString "a")) hT (put_many (p:=z) m (by omega) (by omega) (by omega) (.obj 0) (.str (Str.ofString "a")) T)
 have c0:bE (e2 opIs (eV 1) (eK .non)) [some (.obj i),some .non,some (.int z),some .non,none] T=some (true,T):=b_of (e_2 (e_v rfl) e_k rfl)
 exact frz_p (J:=[.exc TM]) (fun _=>rfl) (fun q h=>by cases h) sb (b_rt rfl (zah (zal e_k) (zah (st_tryR (if_l c0 (zbo (zej (e_v rfl) (zar hT) sl_put (a_c (e_v rfl) (a_c e_k a_n)) k.1))) ((r_if_t c0).trans ((r_meth (e_v rfl) (zar hT) sl_put (a_c (e_v rfl) (a_c e_k a_n))).trans k.2)) catM (zal (e_v rfl))) (zax (zaf (a_c (e_v rfl) a_n) (kind_many (last_at T (.exc TM))))))))
theorem more_place {z:Int} (sb:SB T) (hT:T[i]? = some (shf d j)) (m:Mk 0 d us h) (hu:us.length=2000) (hz:2001≤z):zdg [.obj i,.non,.int z] T=some (.str (Str.ofString "place"),T):=by
 have k:=sput_no (x:=.str (Str.ofString "a")) hT (put_no (p:=z) m (by omega) (.obj 0) (.str (Str.ofString "a")) T)
 have c0:bE (e2 opIs (eV 1) (eK .non)) [some (.obj i),some .non,some (.int z),some .non,none] T=some (true,T):=b_of (e_2 (e_v rfl) e_k rfl)
 exact frz_p (J:=[.exc NP]) (fun _=>rfl) (fun q h=>by cases h) sb (b_rt rfl (zah (zal e_k) (zah (st_tryR (if_l c0 (zbo (zej (e_v rfl) (zar hT) sl_put (a_c (e_v rfl) (a_c e_k a_n)) k.1))) ((r_if_t c0).trans ((r_meth (e_v rfl) (zar hT) sl_put (a_c (e_v rfl) (a_c e_k a_n))).trans k.2)) catP (zal (e_v rfl))) (zax (zaf (a_c (e_v rfl) a_n) (kind_place (last_at T (.exc NP))))))))
theorem rep_fl (x:D) (m:Nat):(List.replicate m [x]).flatten=List.replicate m x:=by
 induction m with
 | zero=>rfl
 | succ m ih=>rw [List.replicate_succ,List.flatten_cons,ih,List.replicate_succ];rfl
theorem rep_e {x:D}{f:E}{m:Nat} (q:f ev S=some (.int m,S)) (h2:m≤10000):eRepL (aC (eK x) aN) f ev S=some (.lst (List.replicate m x),S):=by
 have:=e_repL (ev:=ev) (S:=S) (g:=aC (eK x) aN) (f:=f) (m:=(m:Int)) (a_c e_k a_n) q (Nat.le_of_ble_eq_true rfl) (by omega)
 rw [rep_fl,Int.toNat_natCast] at this
 exact this
theorem init_no {S:Sto} (h1:2000 < us.length) (h2:us.length < 10000):zas [.obj S.length,.obj 0,.lst us] (S++[.ins "Shelf" []])=none∧zcf [.obj S.length,.obj 0,.lst us] (S++[.ins "Shelf" []])=some (TM,S++[shf .non (S.length + 1),.lst []]):=by
 have a1:zee "Shelf" "wood" (eV 0) (eV 1) [some (.obj S.length),some (.obj 0),some (.lst us)] (S++[.ins "Shelf" []])=some (.nx [some (.obj S.length),some (.obj 0),some (.lst us)],S++[.ins "Shelf" [("wood",.obj 0)]]):=by
   simp [zee,eV,zfp,putD]
 have a2:zee "Shelf" "held" (eV 0) (eK .non) [some (.obj S.length),some (.obj 0),some (.lst us)] (S++[.ins "Shelf" [("wood",.obj 0)]])=some (.nx [some (.obj S.length),some (.obj 0),some (.lst us)],S++[.ins "Shelf" [("wood",.obj 0),("held",.non)]]):=by
   simp [zee,eV,eK,zfp,putD,hw1]
 have a3:zee "Shelf" "done" (eV 0) (eNewL aN) [some (.obj S.length),some (.obj 0),some (.lst us)] (S++[.ins "Shelf" [("wood",.obj 0),("held",.non)]])=some (.nx [some (.obj S.length),some (.obj 0),some (.lst us)],S++[shf .non (S.length + 1),.lst []]):=by
   have e1:eNewL aN [some (.obj S.length),some (.obj 0),some (.lst us)] (S++[.ins "Shelf" [("wood",.obj 0),("held",.non)]])=some (.obj (S.length + 1),S++[.ins "Shelf" [("wood",.obj 0),("held",.non)],.lst []]):=by
     have:=e_newL (a:=aN) (ev:=[some (.obj S.length),some (.obj 0),some (.lst us)]) (S:=S++[.ins "Shelf" [("wood",.obj 0),("held",.non)]]) a_n (Nat.zero_le _)
     simpa using this
   simp [zee,e1,eV,zfp,putD,hw2,hw3,shf,sfs]
 obtain ⟨k1,k2⟩:=make_many (ts:=us) h1 h2 (.obj 0) (S++[shf .non (S.length + 1),.lst []])
 have fld_none:∀{v:E}{q:Nat}{ev:Ev}{T:Sto},v ev T=none→zee "Shelf" "held" (eV q) v ev T=none:=fun hv=>by simp [zee,hv]
 exact ⟨zdo (zfg a1 (zfg a2 (zfg a3 (if_l (b_of (e_2 (e_v rfl) e_k rfl)) (fld_none (zcr (a_c (e_v rfl) (a_c (e_v rfl) a_n)) k1)))))),(zdk (n:=3) rfl).trans ((r_seq a1).trans ((r_seq a2).trans ((r_seq a3).trans ((r_if_t (b_of (e_2 (e_v rfl) e_k rfl))).trans ((zfi (a_c (e_v rfl) (a_c (e_v rfl) a_n))).trans k2)))))⟩
theorem not_made_ok {S:Sto} (sb:SB S):zeb [.obj 0] S=some (.bl true,S):=by
 have l1:(List.replicate 2001 (D.str (Str.ofString "x"))).length=2001:=List.length_replicate
 obtain ⟨k1,k2⟩:=init_no (S:=S) (us:=List.replicate 2001 (D.str (Str.ofString "x"))) (by rw [l1];decide) (by rw [l1];decide)
 have ar:∀{ev:Ev},ev[0]? = some (some (.obj 0))→aC (eV 0) (aC (eRepL (aC (eK (.str (Str.ofString "x"))) aN) (eK (.int 2001))) aN) ev S=some ([.obj 0,.lst (List.replicate 2001 (D.str (Str.ofString "x")))],S):=fun he=>by
   exact a_c (e_v he) (a_c (rep_e (m:=2001) e_k (by decide)) a_n)
 have mn:∀{ev:Ev},ev[0]? = some (some (.obj 0))→eMake "Shelf" zas (aC (eV 0) (aC (eRepL (aC (eK (.str (Str.ofString "x"))) aN) (eK (.int 2001))) aN)) ev S=none:=fun he=>by
   simp only [eMake,ar he,Option.bind_some,k1,Option.bind_none]
 have rn:∀{ev:Ev},ev[0]? = some (some (.obj 0))→rMake "Shelf" zcf (aC (eV 0) (aC (eRepL (aC (eK (.str (Str.ofString "x"))) aN) (eK (.int 2001))) aN)) ev S=some (TM,S++[shf .non (S.length + 1),.lst []]):=fun he=>by
   simp only [rMake,ar he,Option.bind_some,k2]
 have lj:(S++[shf .non (S.length + 1),.lst []]++[MO.exc TM])[(S++[shf .non (S.length + 1),MO.lst []]).length]? = some (.exc TM):=last_at _ _
 have:=st_tryR (ev:=[some (.obj 0),some .non,none]) (i:=2) (a:=sSet 1 (eV 2)) (zbo (mn rfl)) (rn rfl) catM (zal (e_v rfl))
 rw [List.append_assoc] at this lj
 exact frz_p (J:=[shf .non (S.length + 1),.lst []]++[.exc TM]) (fun _=>rfl) (fun q h=>by cases h) sb (b_rt rfl (zah (zal e_k) (zah this (zax (e_2 (zaf (a_c (e_v rfl) a_n) (kind_many lj)) e_k rfl)))))
end Pg
set_option maxHeartbeats 8000000
namespace Pg
open PySem L2 F
noncomputable section
def c_law:C :=
 (sSeq (sSet 1 (eMake "Wood" (dflt 1 zcx) aN)) (sSeq (sSet 2 (e2 zbb (zak zfr (aC (zak zdh (aC (eV 0) (aC (eK (.int 1)) aN))) aN)) (eK (.int 61)))) (sSeq (sSet 3 (zak zdh (aC (eV 0) (aC (eK (.int 2)) aN)))) (sSeq (sIf (bE (e2 opEq (e2 zbb (eV 3) (eK (.int 8))) (eK (.int 3)))) (sRet (zak g__law_full (aC (eMake "Shelf" zas (aC (eV 1) (aC (eRepL (aC (eK (.str (Str.ofString "c"))) aN) (e2 zbc (eK (.int 1001)) (e2 zbb (e2 zdi (eV 3) (eK (.int 8))) (eK (.int 1000))))) aN))) (aC (eV 1) (aC (zak zdh (aC (eV 0) (aC (eK (.int 3)) aN))) aN))))) sNil) (sSeq (sSet 4 (eCompM [] (zak zec (aC (zak zdh (aC (eV 0) (aC (eK (.int 0)) aN))) (aC (eV 2) aN))) bYes (zak zcu (aC (eV 0) (aC (e2 zbb (e2 zdi (eV 0) (eK (.int 7))) (eK (.int 2))) aN))))) (sSeq (sSet 5 (eMake "Shelf" zas (aC (eV 1) (aC (eListW (aC (eV 4) aN)) aN)))) (sSeq (sSet 6 (eNewL aN)) (sSeq (sForR 7 (eK (.int 12)) (sSeq (sUnpL [8,9] (zak zec (aC (zak zdh (aC (eV 0) (aC (e2 zbc (eK (.int 4)) (eV 7)) aN))) (aC (eK (.int 2)) aN)))) (sSeq (sIf (bNot (bE (zak zdr (aC (eV 5) (aC (e2 zbb (eV 8) (eK (.int 7))) (aC (e2 zdi (eV 8) (eK (.int 7))) (aC (eA lenD (aC (eV 4) aN)) aN))))))) (sRet (eK (.bl false))) sNil) (sSeq (sIf (bOr (bE (e2s opNeO (zbh "Shelf" "things" zbj (eV 5) aN) (eV 4))) (bE (e2s opNeO (zbh "Shelf" "deeds" zbx (eV 5) aN) (eV 6)))) (sRet (eK (.bl false))) sNil) (sIf (bAnd (bE (e2 opEq (e2 zbb (eV 9) (eK (.int 3))) (eK (.int 0)))) (bNot (bE (zak zfc (aC (eV 5) (aC (eV 4) (aC (eV 6) (aC (e2 zdi (eV 9) (eK (.int 3))) (aC (e2 zbb (eV 7) (eK (.int 2))) aN))))))))) (sRet (eK (.bl false))) sNil))))) (sRet (eAnd (e2s opEqO (zbh "Shelf" "things" zbj (eV 5) aN) (eV 4)) (e2s opEqO (zbh "Shelf" "deeds" zbx (eV 5) aN) (eV 6))))))))))))
def g_law:G:=zbe 10 1 c_law
end
end Pg
set_option maxHeartbeats 4000000
namespace Pg
open PySem L2 F Mt
variable {d d0 l r t x y o:D}{ts us dl e ks lt rt:List D}{h i j g lh rh:Nat}{n:Int}{S S0 S1 R T:Sto}{ev:Ev}
theorem th_s {z:Str} (hz:z.length≤8):∀(m:Nat) x,x∈List.replicate m (D.str z)→Thing 0 x:=fun m x hx=>by
 rw [List.eq_of_mem_replicate hx];exact th_str hz
theorem at_last (hl:0 < us.length):atI us (-1)=some us[us.length - 1]:=by
 have e:ixN us.length (-1)=some (us.length - 1):=by
   unfold ixN
   rw [if_neg (by decide)]
   first
     | rw [if_pos (by omega)];congr 1;omega
     | (split;· congr 1;omega
        · omega)
 unfold atI
 rw [e]
 exact List.getElem?_eq_getElem (by omega)
theorem full_ok {c:Int} (m:Mk 0 d us h) (l1:1001≤us.length) (l2:us.length≤2000):∃S',g__law_full [.obj 1,.obj 0,.int c] (F0 n d [] [])=some (.bl true,S'):=by
 have hM:zdu (.int 2000) (.int (us.length:Int))=some (.int ((2000 - us.length:Nat):Int)):=by
   rw [sub_int];congr 2;omega
 have hM1:zdu (.int 2001) (.int (us.length:Int))=some (.int ((2001 - us.length:Nat):Int)):=by
   rw [sub_int];congr 2;omega
 have nd:∀x∈([]:List D),Dd x:=fun x hx=>by cases hx
 have sb0:SB (F0 n d [] []):=f_sb m nd (fun z hz=>by cases hz)
 obtain ⟨o,ho,n1,co,mo⟩:=shelf_1 (n:=n) (R:=[shf d 2,.lst []]) (ts:=List.replicate (2000 - us.length) (.str (Str.ofString "z"))) (ev:=[some (.obj 1),some (.obj 0),some (.int c),some (.int us.length),some (.lst []),none,none,none]) (f:=eV 1) (g:=eRepL (aC (eK (.str (Str.ofString "z"))) aN) (e2 zdu (eK (.int 2000)) (eV 3))) (e_v rfl) (rep_e (e_2 e_k (e_v rfl) hM) (by omega)) (th_s (by decide +kernel) _) (by rw [List.length_replicate];omega)
 obtain ⟨y,hy,n2,cy,my⟩:=shelf_1 (n:=n1) (R:=[shf d 2,.lst [],shf o 4,.lst []]) (ts:=List.replicate (2001 - us.length) (.str (Str.ofString "y"))) (ev:=[some (.obj 1),some (.obj 0),some (.int c),some (.int us.length),some (.lst []),some (.obj 3),none,none]) (f:=eV 1) (g:=eRepL (aC (eK (.str (Str.ofString "y"))) aN) (e2 zdu (eK (.int 2001)) (eV 3))) (e_v rfl) (rep_e (e_2 e_k (e_v rfl) hM1) (by omega)) (th_s (by decide +kernel) _) (by rw [List.length_replicate];omega)
 have lr:(List.replicate (2000 - us.length) (D.str (Str.ofString "z"))).length=2000 - us.length:=List.length_replicate
 have ly:(List.replicate (2001 - us.length) (D.str (Str.ofString "y"))).length=2001 - us.length:=List.length_replicate
 generalize List.replicate (2000 - us.length) (D.str (Str.ofString "z"))=rt at lr mo
 generalize List.replicate (2001 - us.length) (D.str (Str.ofString "y"))=yt at ly my
 have sb1:SB (F0 n1 d [] [shf o 4,.lst []]):=f_sb m nd fun z hz=>by
   show bndM 5 z=true
   rcases List.mem_cons.mp hz with rfl | hz
   · exact shf_bnd (by decide) (Mk.bnd0 mo)
   rw [List.mem_singleton.mp hz];rfl
 have hR:∀z∈[shf o 4,.lst [],shf y 6,.lst []],bndM 7 z=true:=fun z hz=>by
   rcases List.mem_cons.mp hz with rfl | hz
   · exact shf_bnd (by decide) (Mk.bnd0 mo)
   rcases List.mem_cons.mp hz with rfl | hz
   · rfl
   rcases List.mem_cons.mp hz with rfl | hz
   · exact shf_bnd (by decide) (Mk.bnd0 my)
   rw [List.mem_singleton.mp hz];rfl
 have sb2:SB (F0 n2 d [] [shf o 4,.lst [],shf y 6,.lst []]):=f_sb m nd hR
 obtain ⟨d3,h3,n3,c3,m3⟩:=shf_laid (n:=n2) (d:=d) (dl:=[]) (R:=[shf o 4,.lst [],shf y 6,.lst []]) (q:=3) (j:=4) (o:=o) rfl m mo (by omega) (by decide)
 have l3:(us++rt).length=2000:=by rw [List.length_append];omega
 have dd1:∀x∈[dLaid rt.length],Dd x:=fun x hx=>by rw [List.mem_singleton.mp hx];exact ⟨rfl,rfl⟩
 have sb3:SB (F0 n3 d3 [dLaid rt.length] [shf o 4,.lst [],shf y 6,.lst []]):=f_sb m3 dd1 hR
 obtain ⟨p1,hp1,cp1⟩:=mod_pos c (c:=2001) (by decide)
 obtain ⟨p2,hp2,cp2⟩:=mod_pos c (c:=2000) (by decide)
 have z9:=Int.emod_nonneg c (show (9:Int)≠0 by decide)
 obtain ⟨d4,h4,n4,c4,m4⟩:=shf_out (n:=n3) (dl:=[dLaid rt.length]) (R:=[shf o 4,.lst [],shf y 6,.lst []]) (p:=1999) m3 (by omega) (by omega) (by simp)
 have l4:((us++rt).eraseIdx 1999).length=1999:=by rw [List.length_eraseIdx,if_pos (by omega)];omega
 obtain ⟨d5,h5,n5,c5,m5⟩:=shf_put (n:=n4) (dl:=[dLaid rt.length]++[dOut 1999]) (R:=[shf o 4,.lst [],shf y 6,.lst []]) (p:=p2) (x:=.str (Str.ofString "b")) m4 (by omega) (by omega) (th_str (by decide +kernel)) (by simp)
 have l5:=put_len (ts:=(us++rt).eraseIdx 1999) (x:=.str (Str.ofString "b")) p2
 have dd5:∀x∈[dLaid rt.length]++[dOut 1999]++[dPut p2],Dd x:=fun x hx=>by
   rcases List.mem_append.mp hx with hx | hx
   · rcases List.mem_append.mp hx with hx | hx
     · exact dd1 x hx
     · rw [List.mem_singleton.mp hx];exact ⟨rfl,rfl⟩
   · rw [List.mem_singleton.mp hx];exact ⟨rfl,rfl⟩
 have sb5:SB (F0 n5 d5 ([dLaid rt.length]++[dOut 1999]++[dPut p2]) [shf o 4,.lst [],shf y 6,.lst []]):=f_sb m5 dd5 hR
 have hlast:opIx (F0 n3 d3 [dLaid rt.length] [shf o 4,.lst [],shf y 6,.lst []]) (.lst (us++rt)) (.int (-1))=some (us++rt)[1999]:=by
   have:=at_last (us:=us++rt) (by omega)
   rw [show atI (us++rt) (-1)=opIx (F0 n3 d3 [dLaid rt.length] [shf o 4,.lst [],shf y 6,.lst []]) (.lst (us++rt)) (.int (-1)) from rfl] at this
   rw [this];congr 1;congr 1;omega
 have hne:opNe (us++rt)[1999] (us++rt)[1999]=some (.bl false):=ne_pl (pl_mono (by decide) (pl_thing (m3.things _ (List.getElem_mem _))))
 have nes:∀z:Str,opNe (.str z) (.str z)=some (.bl false):=fun z=>ne_pl rfl
 have nei:∀z:Int,opNe (.int z) (.int z)=some (.bl false):=fun z=>ne_pl rfl
 have hz1:zbc (.int 2001) (.int (c % 9))=some (.int (2001 + c % 9)):=add_int _ _
 refine ⟨_,b_rt rfl (zah (zal (e_a (a_c (things_e (i:=1) (j:=2) rfl hf1 m l2 sb0) a_n) rfl)) (zah (zaq (b_nT (b_of (zaf (a_c (e_v rfl) a_n) (not_made_ok sb0))))) (zah (zal (deeds_e (i:=1) (d:=d) (j:=2) (dl:=[]) rfl rfl rfl)) (zah (zal co) (zah (zaq (b_orF (b_of (e_2 (zaf (a_c (e_v rfl) (a_c (e_v rfl) (a_c e_k a_n))) (more_laid (T:=F0 n1 d [] [shf o 4,.lst []]) (i:=1) (j:=2) (i2:=1) (j2:=2) sb1 rfl rfl m m (by omega) (by omega))) e_k (nes _))) (b_of (e_2 (zaf (a_c (e_v rfl) (a_c cy (a_c e_k a_n))) (more_laid (T:=F0 n2 d [] [shf o 4,.lst [],shf y 6,.lst []]) (i:=1) (j:=2) (i2:=5) (j2:=6) sb2 rfl rfl m my (by omega) (by omega))) e_k (nes _))))) (zah (zaq (b_orF (b_of (e_2s (deeds_e (S:=F0 n2 d [] [shf o 4,.lst [],shf y 6,.lst []]) (i:=1) (d:=d) (j:=2) (dl:=[]) rfl rfl rfl) (e_v rfl) (neO_self rfl rfl rfl rfl))) (b_orF (b_of (e_2 (e_a (a_c (things_e (i:=1) (j:=2) rfl rfl m l2 sb2) a_n) rfl) (e_v rfl) (nei _))) (b_of (e_2 (zcz (e_v rfl) (zar (i:=1) (d:=d) (j:=2) rfl) sl_laid (a_c (e_v rfl) a_n) c3) e_k rfl))))) (zah (zaq (b_orF (b_of (e_2 (zaf (a_c (e_v rfl) (a_c e_k (a_c (e_2 (e_v rfl) e_k cp1) a_n))) (more_put (i:=1) (j:=2) (z:=p1) sb3 rfl m3 l3 (by omega))) e_k (nes _))) (b_of (e_2 (zaf (a_c (e_v rfl) (a_c e_k (a_c (e_2 e_k (e_2 (e_v rfl) e_k (zdz (by decide))) hz1) a_n))) (more_place (i:=1) (j:=2) sb3 rfl m3 l3 (by omega))) e_k (nes _))))) (zah (zal (e_2s (things_e (i:=1) (j:=2) rfl rfl m3 (by omega) sb3) (e_1 e_k rfl) hlast)) (zah (zaq (b_orF (b_of (e_2 (zcz (e_v rfl) (zar (i:=1) (d:=d3) (j:=2) rfl) sl_out (a_c e_k a_n) c4) (e_v rfl) hne)) (b_of (e_2 (zcz (e_v rfl) (zar (i:=1) (d:=d4) (j:=2) rfl) sl_put (a_c (e_2 (e_v rfl) e_k cp2) (a_c e_k a_n)) c5) e_k rfl)))) (zah (zal (e_lst (a_c (zey (a_c e_k (a_c (e_2 e_k (e_v rfl) hM) a_n)) (Nat.le_of_ble_eq_true rfl)) (a_c (zey (a_c e_k (a_c e_k a_n)) (Nat.le_of_ble_eq_true rfl)) (a_c (zey (a_c e_k (a_c (e_2 (e_v rfl) e_k cp2) a_n)) (Nat.le_of_ble_eq_true rfl)) a_n))) (Nat.le_of_ble_eq_true rfl))) (zax (e_andT (e_2 (deeds_e (i:=1) (d:=d5) (j:=2) (dl:=[dLaid rt.length]++[dOut 1999]++[dPut p2]) rfl rfl rfl) (e_2s (z:=.lst ([dLaid rt.length]++[dOut 1999]++[dPut p2])) (e_v rfl) (e_v rfl) ?_) (eq_pl (pl_dl dd5))) (e_2 (e_a (a_c (things_e (i:=1) (j:=2) rfl rfl m5 (by omega) sb5) a_n) rfl) e_k ?_)))))))))))))⟩
 · rw [lr];rfl
 · rw [l5,l4];rfl
theorem comp_two (S:Sto):∀is:List Int,(∀z∈is,0≤z∧z < 998244353)→∃ts:List D,ts.length=is.length∧(∀x∈ts,Thing 0 x)∧compF bYes (zak zcu (aC (eV 0) (aC (e2 zbb (e2 zdi (eV 0) (eK (.int 7))) (eK (.int 2))) aN))) [] (is.map D.int) S=some (ts,S)
 | [],_=>⟨[],rfl,fun x hx=>(by cases hx),rfl⟩
 | z::is,hz=>by
   obtain ⟨ts,e1,e2',e3⟩:=comp_two S is fun y hy=>hz y (List.mem_cons_of_mem _ hy)
   obtain ⟨z0,z1⟩:=hz z (List.mem_cons_self ..)
   have w0:=Int.emod_nonneg (z / 7) (show (2:Int)≠0 by decide)
   have w1:=Int.emod_lt_of_pos (z / 7) (show (0:Int) < 2 by decide)
   obtain ⟨d,td,cd⟩:=thing_ok (k:=0) (κ:=z / 7 % 2) (by unfold Kx;omega) (n:=z) z0 (by omega)
   refine ⟨d::ts,by simp [e1],fun x hx=>(List.mem_cons.mp hx).elim (fun e=>e ▸ td) (e2' x),?_⟩
   rw [List.map_cons]
   unfold compF
   have c1:zak zcu (aC (eV 0) (aC (e2 zbb (e2 zdi (eV 0) (eK (.int 7))) (eK (.int 2))) aN)) [some (.int z)] S=some (d,S):=zaf (a_c (e_v rfl) (a_c (e_2 (e_2 (e_v rfl) e_k (div_e (by decide))) e_k (zdz (by decide))) a_n)) (cd S)
   simp only [bYes,Option.bind_some,if_true,c1,e3]
theorem zs_sb (m:Mk 0 d ts h) (hd:∀x∈dl,Dd x):SB (Zs n ts d dl dl):=fun q hq=>by
 show bndM 5 q=true
 have e1:bndL 0 dl=true:=bndL_of fun y hy=>(hd y hy).1
 rcases List.mem_cons.mp hq with rfl | hq
 · exact wd_bnd (k:=0) _ _
 rcases List.mem_cons.mp hq with rfl | hq
 · exact bndL_of fun y hy=>bnd_thing (m.things y hy)
 rcases List.mem_cons.mp hq with rfl | hq
 · exact shf_bnd (by decide) (Mk.bnd0 m)
 rcases List.mem_cons.mp hq with rfl | hq
 · exact bndL_up e1
 rw [List.mem_singleton.mp hq]
 exact bndL_up e1
noncomputable def lB:C:=(sSeq (sUnpL [8,9] (zak zec (aC (zak zdh (aC (eV 0) (aC (e2 zbc (eK (.int 4)) (eV 7)) aN))) (aC (eK (.int 2)) aN)))) (sSeq (sIf (bNot (bE (zak zdr (aC (eV 5) (aC (e2 zbb (eV 8) (eK (.int 7))) (aC (e2 zdi (eV 8) (eK (.int 7))) (aC (eA lenD (aC (eV 4) aN)) aN))))))) (sRet (eK (.bl false))) sNil) (sSeq (sIf (bOr (bE (e2s opNeO (zbh "Shelf" "things" zbj (eV 5) aN) (eV 4))) (bE (e2s opNeO (zbh "Shelf" "deeds" zbx (eV 5) aN) (eV 6)))) (sRet (eK (.bl false))) sNil) (sIf (bAnd (bE (e2 opEq (e2 zbb (eV 9) (eK (.int 3))) (eK (.int 0)))) (bNot (bE (zak zfc (aC (eV 5) (aC (eV 4) (aC (eV 6) (aC (e2 zdi (eV 9) (eK (.int 3))) (aC (e2 zbb (eV 7) (eK (.int 2))) aN))))))))) (sRet (eK (.bl false))) sNil))))
theorem pl_th2 (m:Mk 0 d ts h):bndL 0 ts=true∧pl 150 (.lst ts)=true:=⟨bndL_of fun y hy=>bnd_thing (m.things y hy),pl_mono (by decide) (pl_lst m.things)⟩
theorem main_loop (ns:List Int) (hn:ns.length≤63) (a2 a3:D):∀(js:List D),(∀x∈js,∃i:Int,x=.int i∧0≤i∧i < 10000)→∀{n:Int}{d:D}{dl ts:List D}{h:Nat} (o7 o8 o9:Option D),Mk 0 d ts h→(∀x∈dl,Dd x)→ts.length + js.length < 900→dl.length + js.length < 900 →
   ∃n' d' dl' ts' h' o7' o8' o9',loopF 7 lB js [some (.lst (ns.map D.int)),some (.obj 0),some a2,some a3,some (.obj 1),some (.obj 2),some (.obj 4),o7,o8,o9] (Zs n ts d dl dl)=some (.nx [some (.lst (ns.map D.int)),some (.obj 0),some a2,some a3,some (.obj 1),some (.obj 2),some (.obj 4),o7',o8',o9'],Zs n' ts' d' dl' dl')∧Mk 0 d' ts' h'∧(∀x∈dl',Dd x)∧ts'.length < 900
 | [],_,n,d,dl,ts,h,o7,o8,o9,m,q,lt,ld=>⟨n,d,dl,ts,h,o7,o8,o9,rfl,m,q,by simpa using lt⟩
 | jj::js,hj,n,d,dl,ts,h,o7,o8,o9,m,q,lt,ld=>by
   obtain ⟨i,rfl,i0,i1⟩:=hj jj (List.mem_cons_self ..)
   rw [List.length_cons] at lt ld
   obtain ⟨c,hc⟩:=cell_ok ns hn (q:=4 + i) (by omega) (by omega)
   have sb:=zs_sb (n:=n) m q
   obtain ⟨is,li,hz,ci⟩:=drawn_ok c (a:=2) (by decide) sb
   obtain ⟨a,b,rfl⟩:∃a b,is=[a,b]:=by
     match is,li with
     | [a,b],_=>exact ⟨a,b,rfl⟩
   obtain ⟨x0,x1⟩:=hz a (by simp)
   obtain ⟨y0,y1⟩:=hz b (by simp)
   have w0:=Int.emod_nonneg a (show (7:Int)≠0 by decide)
   have w1:=Int.emod_lt_of_pos a (show (0:Int) < 7 by decide)
   have rf:=refused_ok (i:=2) (j:=3) (w:=a % 7) (z:=a / 7) sb rfl m w0 w1 (Int.ediv_nonneg x0 (by decide)) (by omega)
   obtain ⟨t1,t2⟩:=pl_th2 m
   have first:sUnpL [8,9] (zak zec (aC (zak zdh (aC (eV 0) (aC (e2 zbc (eK (.int 4)) (eV 7)) aN))) (aC (eK (.int 2)) aN))) [some (.lst (ns.map D.int)),some (.obj 0),some a2,some a3,some (.obj 1),some (.obj 2),some (.obj 4),some (.int i),o8,o9] (Zs n ts d dl dl)=some (.nx [some (.lst (ns.map D.int)),some (.obj 0),some a2,some a3,some (.obj 1),some (.obj 2),some (.obj 4),some (.int i),some (.int a),some (.int b)],Zs n ts d dl dl):=st_unpL2 (zaf (a_c (zaf (a_c (e_v rfl) (a_c (e_2 e_k (e_v rfl) (add_int _ _)) a_n)) (hc _)) (a_c e_k a_n)) ci)
   have second:sIf (bNot (bE (zak zdr (aC (eV 5) (aC (e2 zbb (eV 8) (eK (.int 7))) (aC (e2 zdi (eV 8) (eK (.int 7))) (aC (eA lenD (aC (eV 4) aN)) aN))))))) (sRet (eK (.bl false))) sNil [some (.lst (ns.map D.int)),some (.obj 0),some a2,some a3,some (.obj 1),some (.obj 2),some (.obj 4),some (.int i),some (.int a),some (.int b)] (Zs n ts d dl dl)=some (.nx [some (.lst (ns.map D.int)),some (.obj 0),some a2,some a3,some (.obj 1),some (.obj 2),some (.obj 4),some (.int i),some (.int a),some (.int b)],Zs n ts d dl dl):=zaq (b_nT (b_of (zaf (a_c (e_v rfl) (a_c (e_2 (e_v rfl) e_k (zdz (by decide))) (a_c (e_2 (e_v rfl) e_k (div_e (by decide))) (a_c (e_a (a_c (e_v rfl) a_n) rfl) a_n)))) rf)))
   have third:sIf (bOr (bE (e2s opNeO (zbh "Shelf" "things" zbj (eV 5) aN) (eV 4))) (bE (e2s opNeO (zbh "Shelf" "deeds" zbx (eV 5) aN) (eV 6)))) (sRet (eK (.bl false))) sNil [some (.lst (ns.map D.int)),some (.obj 0),some a2,some a3,some (.obj 1),some (.obj 2),some (.obj 4),some (.int i),some (.int a),some (.int b)] (Zs n ts d dl dl)=some (.nx [some (.lst (ns.map D.int)),some (.obj 0),some a2,some a3,some (.obj 1),some (.obj 2),some (.obj 4),some (.int i),some (.int a),some (.int b)],Zs n ts d dl dl):=zaq (b_orF (b_of (e_2s (things_e (i:=2) (j:=3) rfl rfl m (by omega) sb) (e_v rfl) (neO_self rfl rfl t1 t2))) (b_of (e_2s (deeds_e (i:=2) (d:=d) (j:=3) (dl:=dl) rfl rfl rfl) (e_v rfl) (neO_self rfl rfl (bndL_of fun y hy=>(q y hy).1) (pl_dl q)))))
   have fourth:∃n1 d1 dl1 ts1 h1,sIf (bAnd (bE (e2 opEq (e2 zbb (eV 9) (eK (.int 3))) (eK (.int 0)))) (bNot (bE (zak zfc (aC (eV 5) (aC (eV 4) (aC (eV 6) (aC (e2 zdi (eV 9) (eK (.int 3))) (aC (e2 zbb (eV 7) (eK (.int 2))) aN))))))))) (sRet (eK (.bl false))) sNil [some (.lst (ns.map D.int)),some (.obj 0),some a2,some a3,some (.obj 1),some (.obj 2),some (.obj 4),some (.int i),some (.int a),some (.int b)] (Zs n ts d dl dl)=some (.nx [some (.lst (ns.map D.int)),some (.obj 0),some a2,some a3,some (.obj 1),some (.obj 2),some (.obj 4),some (.int i),some (.int a),some (.int b)],Zs n1 ts1 d1 dl1 dl1)∧Mk 0 d1 ts1 h1∧(∀x∈dl1,Dd x)∧ts1.length + js.length < 900∧dl1.length + js.length < 900:=by
     have e1:e2 opEq (e2 zbb (eV 9) (eK (.int 3))) (eK (.int 0)) [some (.lst (ns.map D.int)),some (.obj 0),some a2,some a3,some (.obj 1),some (.obj 2),some (.obj 4),some (.int i),some (.int a),some (.int b)] (Zs n ts d dl dl)=some (.bl (decide (b % 3=0)),Zs n ts d dl dl):=e_2 (e_2 (e_v rfl) e_k (zdz (by decide))) e_k (eq_w _ _)
     by_cases f:b % 3=0
     · rw [decide_eq_true f] at e1
       have v0:=Int.emod_nonneg i (show (2:Int)≠0 by decide)
       have v1:=Int.emod_lt_of_pos i (show (0:Int) < 2 by decide)
       obtain ⟨n',ts',d',h',v,cd,m',hl',dv⟩:=deed_ok (n:=n) (dl:=dl) (κ:=i % 2) (by unfold Kx;omega) (z:=b / 3) (Int.ediv_nonneg y0 (by decide)) (by omega) m (by omega) (by omega)
       exact ⟨n',d',dl++[v],ts',h',zaq (b_andT (b_of e1) (b_nT (b_of (zaf (a_c (e_v rfl) (a_c (e_v rfl) (a_c (e_v rfl) (a_c (e_2 (e_v rfl) e_k (div_e (by decide))) (a_c (e_2 (e_v rfl) e_k (zdz (by decide))) a_n))))) cd)))),m',fun x hx=>(List.mem_append.mp hx).elim (q x) fun e=>by rw [List.mem_singleton.mp e];exact dv,by omega,by simp;omega⟩
     · rw [decide_eq_false f] at e1
       exact ⟨n,d,dl,ts,h,zaq (b_andF (b_of e1)),m,q,by omega,by omega⟩
   obtain ⟨n1,d1,dl1,ts1,h1,cf,m1,q1,lt1,ld1⟩:=fourth
   obtain ⟨n',d',dl',ts',h',o7',o8',o9',lp,W⟩:=main_loop ns hn a2 a3 js (fun x hx=>hj x (List.mem_cons_of_mem _ hx)) (n:=n1) (some (.int i)) (some (.int a)) (some (.int b)) m1 q1 lt1 ld1
   exact ⟨n',d',dl',ts',h',o7',o8',o9',loop_nx (zah first (zah second (zah third cf))) lp,W⟩
theorem eqO_self {S:Sto}{a b:D}{us:List D} (ha:seeL S a=some us) (hb:seeL S b=some us) (h1:bndL 0 us=true) (h2:pl 150 (.lst us)=true):opEqO S a b=some (.bl true):=by
 unfold opEqO
 simp only [ha,hb,Option.bind_some]
 rw [if_pos ⟨h1,h1⟩]
 exact eq_pl h2
theorem law_ok:LawOk g_law:=by
 intro ns hn
 obtain ⟨c0,hc0⟩:=cell_ok ns hn (q:=0) (by decide) (by decide)
 obtain ⟨c1,hc1⟩:=cell_ok ns hn (q:=1) (by decide) (by decide)
 obtain ⟨c2,hc2⟩:=cell_ok ns hn (q:=2) (by decide) (by decide)
 obtain ⟨c3,hc3⟩:=cell_ok ns hn (q:=3) (by decide) (by decide)
 have sb0:SB [wd (addv 0) 0]:=sb_one (k:=0) 0
 obtain ⟨am,ha,ca⟩:=amount_ok c1
 obtain ⟨a,la,ea⟩:=mod_pos (am:Int) (c:=61) (by decide)
 have e1:∀{ev:Ev},ev[3]? = some (some (.int c2))→e2 opEq (e2 zbb (eV 3) (eK (.int 8))) (eK (.int 3)) ev [wd (addv 0) 0]=some (.bl (decide (c2 % 8=3)),[wd (addv 0) 0]):=fun he=>e_2 (e_2 (e_v he) e_k (zdz (by decide))) e_k (eq_w _ _)
 by_cases f:c2 % 8=3
 · rw [decide_eq_true f] at e1
   obtain ⟨b,hb,cb⟩:=mod_pos (c2 / 8) (c:=1000) (by decide)
   obtain ⟨d,h,n1,cs,m⟩:=shelf_1 (n:=0) (R:=[]) (ts:=List.replicate (1001 + b) (.str (Str.ofString "c"))) (ev:=[some (.lst (ns.map D.int)),some (.obj 0),some (.int a),some (.int c2),none,none,none,none,none,none]) (f:=eV 1) (g:=eRepL (aC (eK (.str (Str.ofString "c"))) aN) (e2 zbc (eK (.int 1001)) (e2 zbb (e2 zdi (eV 3) (eK (.int 8))) (eK (.int 1000))))) (e_v rfl) (rep_e (e_2 e_k (e_2 (e_2 (e_v rfl) e_k (div_e (by decide))) e_k cb) rfl) (by omega)) (th_s (by decide +kernel) _) (by rw [List.length_replicate];omega)
   obtain ⟨S',cf⟩:=full_ok (n:=n1) (c:=c3) m (by rw [List.length_replicate];omega) (by rw [List.length_replicate];omega)
   exact ⟨S',b_rt rfl (zah (zal wood_e0) (zah (zal (e_2 (zaf (a_c (zaf (a_c (e_v rfl) (a_c e_k a_n)) (hc1 _)) a_n) (ca _)) e_k ea)) (zah (zal (zaf (a_c (e_v rfl) (a_c e_k a_n)) (hc2 _))) (zbz (zbr (b_of (e1 rfl)) (zax (zaf (a_c cs (a_c (e_v rfl) (a_c (zaf (a_c (e_v rfl) (a_c e_k a_n)) (hc3 _)) a_n))) cf)))))))⟩
 · rw [decide_eq_false f] at e1
   obtain ⟨is,li,hi,ci⟩:=drawn_ok c0 (a:=a) (by omega) sb0
   obtain ⟨ts,lt,tt,ct⟩:=comp_two [wd (addv 0) 0] is hi
   obtain ⟨d,h,n1,cs,m⟩:=shelf_1 (n:=0) (R:=[MO.lst ts]) (ts:=ts) (ev:=[some (.lst (ns.map D.int)),some (.obj 0),some (.int a),some (.int c2),some (.obj 1),none,none,none,none,none]) (f:=eV 1) (g:=eListW (aC (eV 4) aN)) (e_v rfl) (listW_o (i:=1) (e_v rfl) rfl) tt (by omega)
   obtain ⟨n',d',dl',ts',h',o7',o8',o9',lp,m',q',lt'⟩:=main_loop ns hn (.int a) (.int c2) (zeg 0 12) (rng (by decide)) (n:=n1) (d:=d) (dl:=[]) (ts:=ts) none none none m (fun x hx=>by cases hx) (by rw [rng_len];omega) (by rw [rng_len];simp)
   obtain ⟨t1,t2⟩:=pl_th2 m'
   exact ⟨Zs n' ts' d' dl' dl',b_rt rfl (zah (zal wood_e0) (zah (zal (e_2 (zaf (a_c (zaf (a_c (e_v rfl) (a_c e_k a_n)) (hc1 _)) a_n) (ca _)) e_k ea)) (zah (zal (zaf (a_c (e_v rfl) (a_c e_k a_n)) (hc2 _))) (zah (zaq (b_of (e1 rfl))) (zah (zal (compM_e (S:=[wd (addv 0) 0]) (zaf (a_c (zaf (a_c (e_v rfl) (a_c e_k a_n)) (hc0 _)) (a_c (e_v rfl) a_n)) ci) ct)) (zah (zal cs) (zah (zal (e_newL (S:=W0 n1 ts d [] []) a_n (Nat.zero_le _))) (zah (st_forR (b:=lB) (n:=(12:Int)) (S1:=Zs n1 ts d [] []) e_k (by decide) (by decide) lp) (zax (e_andT (e_2s (things_e (i:=2) (j:=3) rfl rfl m' (by omega) (zs_sb m' q')) (e_v rfl) (eqO_self rfl rfl t1 t2)) (e_2s (deeds_e (i:=2) (d:=d') (j:=3) (dl:=dl') rfl rfl rfl) (e_v rfl) (eqO_self rfl rfl (bndL_of fun y hy=>(q' y hy).1) (pl_dl q')))))))))))))⟩
end Pg
set_option maxHeartbeats 8000000
namespace Pg
open PySem L2 F PySem.Spec PyProof.Rows
variable {P:Program}{w:World}{K:PySem.W.Frag}{mg:Str→Option Value}{base:Heap}{f:Addr}{cdv:Value}{A:Around}{outer:List Env}{s:Shared}{H:Hp}{E:XK}
seal F.FE F.FB F.FW F.FA F.FS F.FSs F.FPt F.RE F.RS F.RSs F.RTs
def top (i:Nat):Stmt:=PySem.Challenge.pw_ownshelf_k36_deeds_refused.main.body.getD i (.Pass ⟨0,0,0,0⟩)
abbrev s_Wood_numbered:Stmt:=zes (top 47) 4
abbrev s_check_room:Stmt:=top 46
abbrev s_height:Stmt:=top 15
abbrev s_height_above:Stmt:=top 21
abbrev s_in_balance:Stmt:=top 22
abbrev s_size:Stmt:=top 14
abbrev s_size_above:Stmt:=top 20
abbrev s_back:Stmt:=top 17
abbrev s_backward_sum:Stmt:=top 25
abbrev s_total:Stmt:=top 16
abbrev s_onward_sum:Stmt:=top 24
abbrev s_sums_above:Stmt:=top 23
abbrev s_Wood_node:Stmt:=zes (top 47) 2
abbrev s_built:Stmt:=top 52
abbrev s_make_of:Stmt:=top 51
abbrev s_Shelf___init__:Stmt:=zes (top 73) 0
abbrev s_Shelf_deeds:Stmt:=zes (top 73) 3
abbrev s_seen:Stmt:=top 19
abbrev s_gather:Stmt:=top 54
abbrev s_things_of:Stmt:=top 53
abbrev s_Shelf_things:Stmt:=zes (top 73) 2
abbrev s_Wood___init__:Stmt:=zes (top 47) 0
abbrev s__law_amount:Stmt:=top 78
abbrev s__law_cell:Stmt:=top 75
abbrev s_Shelf_hold:Stmt:=zes (top 73) 4
abbrev s_check_place:Stmt:=top 49
abbrev s_thing_at:Stmt:=top 56
abbrev s_at:Stmt:=top 55
abbrev s_Wood_turned:Stmt:=zes (top 47) 3
abbrev s_parts:Stmt:=top 18
abbrev s_lifted_left:Stmt:=top 29
abbrev s_lifted_right:Stmt:=top 30
abbrev s_balanced:Stmt:=top 28
abbrev s_joined:Stmt:=top 27
abbrev s_laid_together:Stmt:=top 67
abbrev s_taken_out:Stmt:=top 62
abbrev s_out:Stmt:=top 60
abbrev s_Shelf_out:Stmt:=zes (top 73) 6
abbrev s_put_in:Stmt:=top 59
abbrev s_put:Stmt:=top 57
abbrev s_Shelf_put:Stmt:=zes (top 73) 5
abbrev s_given:Stmt:=top 64
abbrev s_swapped:Stmt:=top 63
abbrev s_Shelf_swap:Stmt:=zes (top 73) 7
abbrev s_check_stretch:Stmt:=top 50
abbrev s_cut_ahead:Stmt:=top 70
abbrev s_turned_part:Stmt:=top 71
abbrev s_Shelf_turned:Stmt:=zes (top 73) 8
abbrev s__law_thing:Stmt:=top 77
abbrev s__law_deed:Stmt:=top 80
abbrev s__law_drawn:Stmt:=top 76
abbrev s_Shelf_make:Stmt:=zes (top 73) 1
abbrev s_laid:Stmt:=top 65
abbrev s_Shelf_laid:Stmt:=zes (top 73) 9
abbrev s__law_kind_of:Stmt:=top 82
abbrev s__law_more:Stmt:=top 84
abbrev s__law_not_made:Stmt:=top 85
abbrev s__law_full:Stmt:=top 86
abbrev s_cut:Stmt:=top 68
abbrev s_Shelf_cut:Stmt:=zes (top 73) 10
abbrev s__law_bad:Stmt:=top 81
abbrev s__law_refused:Stmt:=top 83
abbrev s_law:Stmt:=top 87
structure TX (K:PySem.W.Frag) (mg:Str→Option Value):Prop where
 b_ValueError:mg "ValueError"=none
 b_abs:mg "abs"=none
 b_int:mg "int"=none
 b_isinstance:mg "isinstance"=none
 b_len:mg "len"=none
 b_list:mg "list"=none
 b_max:mg "max"=none
 b_range:mg "range"=none
 b_sum:mg "sum"=none
 i_ABOUT:∃t,mg "ABOUT"=some (.int 1 t)
 i_AHEAD:∃t,mg "AHEAD"=some (.int 0 t)
 i_BACK:∃t,mg "BACK"=some (.int 8 t)
 i_BEHIND:∃t,mg "BEHIND"=some (.int 2 t)
 i_HEIGHT:∃t,mg "HEIGHT"=some (.int 6 t)
 i_LEFT:∃t,mg "LEFT"=some (.int 2 t)
 i_MIDDLE:∃t,mg "MIDDLE"=some (.int 1 t)
 i_MOST_THINGS:∃t,mg "MOST_THINGS"=some (.int 2000 t)
 i_RIGHT:∃t,mg "RIGHT"=some (.int 4 t)
 i_SIZE:∃t,mg "SIZE"=some (.int 5 t)
 i_THING:∃t,mg "THING"=some (.int 3 t)
 i_TOTAL:∃t,mg "TOTAL"=some (.int 7 t)
 i_TURNED:∃t,mg "TURNED"=some (.int 3 t)
 w_Shelf_done:Fld K mg "Shelf" "done"
 w_Shelf_held:Fld K mg "Shelf" "held"
 w_Shelf_wood:Fld K mg "Shelf" "wood"
 w_Wood_adding:Fld K mg "Wood" "adding"
 w_Wood_nodes_made:Fld K mg "Wood" "nodes_made"
 v_Changed:∃f,mg "Changed"=some (.ref f)
 v_NoBalance:∃f,mg "NoBalance"=some (.ref f)
 v_NoMore:∃f,mg "NoMore"=some (.ref f)
 v_NoName:∃f,mg "NoName"=some (.ref f)
 v_NoNumber:∃f,mg "NoNumber"=some (.ref f)
 v_NoPlace:∃f,mg "NoPlace"=some (.ref f)
 v_NoRow:∃f,mg "NoRow"=some (.ref f)
 v_NoSum:∃f,mg "NoSum"=some (.ref f)
 v_NoThing:∃f,mg "NoThing"=some (.ref f)
 v_NoWay:∃f,mg "NoWay"=some (.ref f)
 v_TooMany:∃f,mg "TooMany"=some (.ref f)
 x_NoPlace:ExcCls K mg "NoPlace"
 x_TooMany:ExcCls K mg "TooMany"
 up:UpOk K mg up
 al_cut_rows:mg "cut_rows"=mg "cut"
 al_laid_rows:mg "laid_rows"=mg "laid"
 al_out_rows:mg "out_rows"=mg "out"
 al_put_rows:mg "put_rows"=mg "put"
 f_Wood_numbered:HasMth K mg "Wood" "numbered" "Wood.numbered" s_Wood_numbered
 f_check_room:HasDef K mg "check_room" s_check_room 0
 f_height:HasDef K mg "height" s_height 0
 f_height_above:HasDef K mg "height_above" s_height_above 0
 f_in_balance:HasDef K mg "in_balance" s_in_balance 0
 f_size:HasDef K mg "size" s_size 0
 f_size_above:HasDef K mg "size_above" s_size_above 0
 f_back:HasDef K mg "back" s_back 0
 f_backward_sum:HasDef K mg "backward_sum" s_backward_sum 0
 f_total:HasDef K mg "total" s_total 0
 f_onward_sum:HasDef K mg "onward_sum" s_onward_sum 0
 f_sums_above:HasDef K mg "sums_above" s_sums_above 0
 f_Wood_node:HasMth K mg "Wood" "node" "Wood.node" s_Wood_node
 f_built:HasDef K mg "built" s_built 0
 f_make_of:HasDef K mg "make_of" s_make_of 0
 f_Shelf___init__:HasMk K mg "Shelf" "Shelf.__init__" s_Shelf___init__ 1
 f_Shelf_deeds:HasMth K mg "Shelf" "deeds" "Shelf.deeds" s_Shelf_deeds
 f_seen:HasDef K mg "seen" s_seen 0
 f_gather:HasDef K mg "gather" s_gather 0
 f_things_of:HasDef K mg "things_of" s_things_of 0
 f_Shelf_things:HasMth K mg "Shelf" "things" "Shelf.things" s_Shelf_things
 f_Wood___init__:HasMk K mg "Wood" "Wood.__init__" s_Wood___init__ 1
 f__law_amount:HasDef K mg "_law_amount" s__law_amount 0
 f__law_cell:HasDef K mg "_law_cell" s__law_cell 0
 f_Shelf_hold:HasMth K mg "Shelf" "hold" "Shelf.hold" s_Shelf_hold
 f_check_place:HasDef K mg "check_place" s_check_place 0
 f_thing_at:HasDef K mg "thing_at" s_thing_at 0
 f_at:HasDef K mg "at" s_at 0
 f_Wood_turned:HasMth K mg "Wood" "turned" "Wood.turned" s_Wood_turned
 f_parts:HasDef K mg "parts" s_parts 0
 f_lifted_left:HasDef K mg "lifted_left" s_lifted_left 0
 f_lifted_right:HasDef K mg "lifted_right" s_lifted_right 0
 f_balanced:HasDef K mg "balanced" s_balanced 0
 f_joined:HasDef K mg "joined" s_joined 0
 f_laid_together:HasDef K mg "laid_together" s_laid_together 0
 f_taken_out:HasDef K mg "taken_out" s_taken_out 0
 f_out:HasDef K mg "out" s_out 0
 f_Shelf_out:HasMth K mg "Shelf" "out" "Shelf.out" s_Shelf_out
 f_put_in:HasDef K mg "put_in" s_put_in 0
 f_put:HasDef K mg "put" s_put 0
 f_Shelf_put:HasMth K mg "Shelf" "put" "Shelf.put" s_Shelf_put
 f_given:HasDef K mg "given" s_given 0
 f_swapped:HasDef K mg "swapped" s_swapped 0
 f_Shelf_swap:HasMth K mg "Shelf" "swap" "Shelf.swap" s_Shelf_swap
 f_check_stretch:HasDef K mg "check_stretch" s_check_stretch 0
 f_cut_ahead:HasDef K mg "cut_ahead" s_cut_ahead 0
 f_turned_part:HasDef K mg "turned_part" s_turned_part 0
 f_Shelf_turned:HasMth K mg "Shelf" "turned" "Shelf.turned" s_Shelf_turned
 f__law_thing:HasDef K mg "_law_thing" s__law_thing 0
 f__law_deed:HasDef K mg "_law_deed" s__law_deed 0
 f__law_drawn:HasDef K mg "_law_drawn" s__law_drawn 0
 f_Shelf_make:HasMth K mg "Shelf" "make" "Shelf.make" s_Shelf_make
 f_laid:HasDef K mg "laid" s_laid 0
 f_Shelf_laid:HasMth K mg "Shelf" "laid" "Shelf.laid" s_Shelf_laid
 f__law_kind_of:HasDef K mg "_law_kind_of" s__law_kind_of 0
 f__law_more:HasDef K mg "_law_more" s__law_more 0
 f__law_not_made:HasDef K mg "_law_not_made" s__law_not_made 0
 f__law_full:HasDef K mg "_law_full" s__law_full 0
 f_cut:HasDef K mg "cut" s_cut 0
 f_Shelf_cut:HasMth K mg "Shelf" "cut" "Shelf.cut" s_Shelf_cut
 f__law_bad:HasDef K mg "_law_bad" s__law_bad 0
 f__law_refused:HasDef K mg "_law_refused" s__law_refused 0
 f_law:HasDef K mg "law" s_law 0
theorem sc_Wood_numbered:FnScope ["self", "rest", "number"] ["self", "rest"] (zab s_Wood_numbered):=⟨rfl,rfl,rfl,by decide +kernel,rfl,by decide +kernel,by decide +kernel⟩
theorem d_Wood_numbered (T:TX K mg) (hr:Room 0 (A.deeper (envOfC "Wood.numbered" (zab s_Wood_numbered) s.heap.objs.size f cdv))) :
   FSs (cxOf CX0 P w K mg base ["self", "rest", "number"] "Wood.numbered" (zab s_Wood_numbered) f cdv A outer s H E).nox (zaj s_Wood_numbered) c_Wood_numbered:=by
 have nd:=sc_Wood_numbered.nd
 exact (zad (zat 2 (zcp T.w_Wood_nodes_made (fe_v 0)) nd) (zad (fs_fld T.w_Wood_nodes_made (fe_v 0) (zbg (fe_v 2) zai)) (zag (zan (zbg (zcy (zaa (fe_v 2) zac)) (fe_v 1))))))
theorem kk_Wood_numbered (T:TX K mg):Mth P w K mg base 1 "Wood" "numbered" zce:=T.f_Wood_numbered.mth sc_Wood_numbered (fun _ _ _ _ _ _=>ls2 fun _ _=>rfl) (fun f cdv A outer s H E hr=>d_Wood_numbered T  hr)
theorem sc_check_room:FnScope ["things"] ["things"] (zab s_check_room):=⟨rfl,rfl,rfl,by decide +kernel,rfl,by decide +kernel,by decide +kernel⟩
theorem d_check_room (T:TX K mg) (hr:Room 0 (A.deeper (envOfC "check_room" (zab s_check_room) s.heap.objs.size f cdv))) :
   FSs (cxOf CX0 P w K mg base ["things"] "check_room" (zab s_check_room) f cdv A outer s H E).nox (zaj s_check_room) c_check_room:=by
 have nd:=sc_check_room.nd
 exact (zag (zbu (fb_gt (fe_v 0) (zba T.i_MOST_THINGS)) (zag fs_never) zau))
theorem kk_check_room (T:TX K mg):Cal P w K mg base 1 "check_room" zbk:=(T.f_check_room.cal sc_check_room (fun _ _ _ _ _ _=>ls1 fun _=>rfl) (fun f cdv A outer s H E hr=>d_check_room T  hr))
theorem dr_check_room (T:TX K mg) (hr:Room 0 (A.deeper (envOfC "check_room" (zab s_check_room) s.heap.objs.size f cdv))) :
   RSs (cxOf (CX1 P w) P w K mg base ["things"] "check_room" (zab s_check_room) f cdv A outer s H E) (zaj s_check_room) rc_check_room:=by
 have nd:=sc_check_room.nd
 exact (rss_if (fb_gt (fe_v 0) (zba T.i_MOST_THINGS)) (zbs (rs_raise T.x_TooMany (zaa (fe_fstr (.cons zca (.cons (fe_fv (zba T.i_MOST_THINGS)) (.cons zca (.cons (fe_fv (fe_v 0)) FL.nil))))) zac))) rss_none)
theorem kr_check_room (T:TX K mg):RCal P w K mg base 1 "check_room" zbf:=T.f_check_room.rcal sc_check_room (fun _ _ _ _ _ _=>ls1 fun _=>rfl) (fun f cdv A outer s H E hr=>dr_check_room T  hr)
theorem sc_height:FnScope ["make"] ["make"] (zab s_height):=⟨rfl,rfl,rfl,by decide +kernel,rfl,by decide +kernel,by decide +kernel⟩
theorem d_height (T:TX K mg) (hr:Room 0 (A.deeper (envOfC "height" (zab s_height) s.heap.objs.size f cdv))) :
   FSs (cxOf CX0 P w K mg base ["make"] "height" (zab s_height) f cdv A outer s H E).nox (zaj s_height) c_height:=by
 have nd:=sc_height.nd
 exact (zad (zbu (fb_is (fe_v 0) zcb) (zag (zan zai)) zau) (zag (zan (zav (fe_v 0) (zba T.i_HEIGHT)))))
theorem kk_height (T:TX K mg):Cal P w K mg base 1 "height" zbi:=(T.f_height.cal sc_height (fun _ _ _ _ _ _=>ls1 fun _=>rfl) (fun f cdv A outer s H E hr=>d_height T  hr))
theorem sc_height_above:FnScope ["left", "right"] ["left", "right"] (zab s_height_above):=⟨rfl,rfl,rfl,by decide +kernel,rfl,by decide +kernel,by decide +kernel⟩
theorem d_height_above (T:TX K mg) (C_height:Cal P w K mg base 1 "height" zbi) (hr:Room 1 (A.deeper (envOfC "height_above" (zab s_height_above) s.heap.objs.size f cdv))) :
   FSs (cxOf CX0 P w K mg base ["left", "right"] "height_above" (zab s_height_above) f cdv A outer s H E).nox (zaj s_height_above) c_height_above:=by
 have nd:=sc_height_above.nd
 exact (zag (zan (zbg zai (fe_max T.b_max (zaa (zae C_height (hr.mono (by decide)) (zaa (fe_v 0) zac)) (zaa (zae C_height (hr.mono (by decide)) (zaa (fe_v 1) zac)) zac))))))
theorem kk_height_above (T:TX K mg) (C_height:Cal P w K mg base 1 "height" zbi):Cal P w K mg base 2 "height_above" zdq:=(T.f_height_above.cal sc_height_above (fun _ _ _ _ _ _=>ls2 fun _ _=>rfl) (fun f cdv A outer s H E hr=>d_height_above T C_height hr))
theorem sc_in_balance:FnScope ["left", "right"] ["left", "right"] (zab s_in_balance):=⟨rfl,rfl,rfl,by decide +kernel,rfl,by decide +kernel,by decide +kernel⟩
theorem d_in_balance (T:TX K mg) (C_height:Cal P w K mg base 1 "height" zbi) (hr:Room 1 (A.deeper (envOfC "in_balance" (zab s_in_balance) s.heap.objs.size f cdv))) :
   FSs (cxOf CX0 P w K mg base ["left", "right"] "in_balance" (zab s_in_balance) f cdv A outer s H E).nox (zaj s_in_balance) c_in_balance:=by
 have nd:=sc_in_balance.nd
 exact (zag (zan (fe_le (fe_abs T.b_abs (zaa (zem (zae C_height (hr.mono (by decide)) (zaa (fe_v 0) zac)) (zae C_height (hr.mono (by decide)) (zaa (fe_v 1) zac))) zac)) zai)))
theorem kk_in_balance (T:TX K mg) (C_height:Cal P w K mg base 1 "height" zbi):Cal P w K mg base 2 "in_balance" zcg:=(T.f_in_balance.cal sc_in_balance (fun _ _ _ _ _ _=>ls2 fun _ _=>rfl) (fun f cdv A outer s H E hr=>d_in_balance T C_height hr))
theorem sc_size:FnScope ["make"] ["make"] (zab s_size):=⟨rfl,rfl,rfl,by decide +kernel,rfl,by decide +kernel,by decide +kernel⟩
theorem d_size (T:TX K mg) (hr:Room 0 (A.deeper (envOfC "size" (zab s_size) s.heap.objs.size f cdv))) :
   FSs (cxOf CX0 P w K mg base ["make"] "size" (zab s_size) f cdv A outer s H E).nox (zaj s_size) c_size:=by
 have nd:=sc_size.nd
 exact (zad (zbu (fb_is (fe_v 0) zcb) (zag (zan zai)) zau) (zag (zan (zav (fe_v 0) (zba T.i_SIZE)))))
theorem kk_size (T:TX K mg):Cal P w K mg base 1 "size" zaw:=(T.f_size.cal sc_size (fun _ _ _ _ _ _=>ls1 fun _=>rfl) (fun f cdv A outer s H E hr=>d_size T  hr))
theorem sc_size_above:FnScope ["left", "right"] ["left", "right"] (zab s_size_above):=⟨rfl,rfl,rfl,by decide +kernel,rfl,by decide +kernel,by decide +kernel⟩
theorem d_size_above (T:TX K mg) (C_size:Cal P w K mg base 1 "size" zaw) (hr:Room 1 (A.deeper (envOfC "size_above" (zab s_size_above) s.heap.objs.size f cdv))) :
   FSs (cxOf CX0 P w K mg base ["left", "right"] "size_above" (zab s_size_above) f cdv A outer s H E).nox (zaj s_size_above) c_size_above:=by
 have nd:=sc_size_above.nd
 exact (zag (zan (zbg (zbg (zae C_size (hr.mono (by decide)) (zaa (fe_v 0) zac)) zai) (zae C_size (hr.mono (by decide)) (zaa (fe_v 1) zac)))))
theorem kk_size_above (T:TX K mg) (C_size:Cal P w K mg base 1 "size" zaw):Cal P w K mg base 2 "size_above" zeu:=(T.f_size_above.cal sc_size_above (fun _ _ _ _ _ _=>ls2 fun _ _=>rfl) (fun f cdv A outer s H E hr=>d_size_above T C_size hr))
theorem sc_back:FnScope ["make"] ["make"] (zab s_back):=⟨rfl,rfl,rfl,by decide +kernel,rfl,by decide +kernel,by decide +kernel⟩
theorem d_back (T:TX K mg) (hr:Room 0 (A.deeper (envOfC "back" (zab s_back) s.heap.objs.size f cdv))) :
   FSs (cxOf CX0 P w K mg base ["make"] "back" (zab s_back) f cdv A outer s H E).nox (zaj s_back) c_back:=by
 have nd:=sc_back.nd
 exact (zad (zbu (fb_is (fe_v 0) zcb) (zag (zan zcb)) zau) (zag (zan (zav (fe_v 0) (zba T.i_BACK)))))
theorem kk_back (T:TX K mg):Cal P w K mg base 1 "back" g_back:=(T.f_back.cal sc_back (fun _ _ _ _ _ _=>ls1 fun _=>rfl) (fun f cdv A outer s H E hr=>d_back T  hr))
theorem sc_backward_sum:FnScope ["add", "left", "thing", "right", "result"] ["add", "left", "thing", "right"] (zab s_backward_sum):=⟨rfl,rfl,rfl,by decide +kernel,rfl,by decide +kernel,by decide +kernel⟩
theorem d_backward_sum (T:TX K mg) (C_back:Cal P w K mg base 1 "back" g_back) (hft:∀x g,ft x=some g→Cal P w K mg base 0 x g) (hr:Room 1 (A.deeper (envOfC "backward_sum" (zab s_backward_sum) s.heap.objs.size f cdv))) :
   FSs (cxOf CX0 P w K mg base ["add", "left", "thing", "right", "result"] "backward_sum" (zab s_backward_sum) f cdv A outer s H E).nox (zaj s_backward_sum) c_backward_sum:=by
 have nd:=sc_backward_sum.nd
 exact (zad (zat 4 (fe_v 2) nd) (zad (zbu (fb_isNot (fe_v 3) zcb) (zag (zat 4 (fe_callV hft (hr.mono (by decide)) (fe_v 0) (zaa (zae C_back (hr.mono (by decide)) (zaa (fe_v 3) zac)) (zaa (fe_v 4) zac))) nd)) zau) (zad (zbu (fb_isNot (fe_v 1) zcb) (zag (zat 4 (fe_callV hft (hr.mono (by decide)) (fe_v 0) (zaa (fe_v 4) (zaa (zae C_back (hr.mono (by decide)) (zaa (fe_v 1) zac)) zac))) nd)) zau) (zag (zan (fe_v 4))))))
theorem kk_backward_sum (T:TX K mg) (C_back:Cal P w K mg base 1 "back" g_back) (hft:∀x g,ft x=some g→Cal P w K mg base 0 x g):Cal P w K mg base 2 "backward_sum" zel:=(T.f_backward_sum.cal sc_backward_sum (fun _ _ _ _ _ _=>ls4 fun _ _ _ _=>rfl) (fun f cdv A outer s H E hr=>d_backward_sum T C_back hft hr))
theorem sc_total:FnScope ["make"] ["make"] (zab s_total):=⟨rfl,rfl,rfl,by decide +kernel,rfl,by decide +kernel,by decide +kernel⟩
theorem d_total (T:TX K mg) (hr:Room 0 (A.deeper (envOfC "total" (zab s_total) s.heap.objs.size f cdv))) :
   FSs (cxOf CX0 P w K mg base ["make"] "total" (zab s_total) f cdv A outer s H E).nox (zaj s_total) c_total:=by
 have nd:=sc_total.nd
 exact (zad (zbu (fb_is (fe_v 0) zcb) (zag (zan zcb)) zau) (zag (zan (zav (fe_v 0) (zba T.i_TOTAL)))))
theorem kk_total (T:TX K mg):Cal P w K mg base 1 "total" zfa:=(T.f_total.cal sc_total (fun _ _ _ _ _ _=>ls1 fun _=>rfl) (fun f cdv A outer s H E hr=>d_total T  hr))
theorem sc_onward_sum:FnScope ["add", "left", "thing", "right", "result"] ["add", "left", "thing", "right"] (zab s_onward_sum):=⟨rfl,rfl,rfl,by decide +kernel,rfl,by decide +kernel,by decide +kernel⟩
theorem d_onward_sum (T:TX K mg) (C_total:Cal P w K mg base 1 "total" zfa) (hft:∀x g,ft x=some g→Cal P w K mg base 0 x g) (hr:Room 1 (A.deeper (envOfC "onward_sum" (zab s_onward_sum) s.heap.objs.size f cdv))) :
   FSs (cxOf CX0 P w K mg base ["add", "left", "thing", "right", "result"] "onward_sum" (zab s_onward_sum) f cdv A outer s H E).nox (zaj s_onward_sum) c_onward_sum:=by
 have nd:=sc_onward_sum.nd
 exact (zad (zat 4 (fe_v 2) nd) (zad (zbu (fb_isNot (fe_v 1) zcb) (zag (zat 4 (fe_callV hft (hr.mono (by decide)) (fe_v 0) (zaa (zae C_total (hr.mono (by decide)) (zaa (fe_v 1) zac)) (zaa (fe_v 4) zac))) nd)) zau) (zad (zbu (fb_isNot (fe_v 3) zcb) (zag (zat 4 (fe_callV hft (hr.mono (by decide)) (fe_v 0) (zaa (fe_v 4) (zaa (zae C_total (hr.mono (by decide)) (zaa (fe_v 3) zac)) zac))) nd)) zau) (zag (zan (fe_v 4))))))
theorem kk_onward_sum (T:TX K mg) (C_total:Cal P w K mg base 1 "total" zfa) (hft:∀x g,ft x=some g→Cal P w K mg base 0 x g):Cal P w K mg base 2 "onward_sum" zfk:=(T.f_onward_sum.cal sc_onward_sum (fun _ _ _ _ _ _=>ls4 fun _ _ _ _=>rfl) (fun f cdv A outer s H E hr=>d_onward_sum T C_total hft hr))
theorem sc_sums_above:FnScope ["add", "left", "thing", "right"] ["add", "left", "thing", "right"] (zab s_sums_above):=⟨rfl,rfl,rfl,by decide +kernel,rfl,by decide +kernel,by decide +kernel⟩
theorem d_sums_above (T:TX K mg) (C_backward_sum:Cal P w K mg base 2 "backward_sum" zel) (C_onward_sum:Cal P w K mg base 2 "onward_sum" zfk) (hr:Room 2 (A.deeper (envOfC "sums_above" (zab s_sums_above) s.heap.objs.size f cdv))) :
   FSs (cxOf CX0 P w K mg base ["add", "left", "thing", "right"] "sums_above" (zab s_sums_above) f cdv A outer s H E).nox (zaj s_sums_above) c_sums_above:=by
 have nd:=sc_sums_above.nd
 exact (zad (zbu (fb_is (fe_v 0) zcb) (zag (zan (zcy (zaa zcb (zaa zcb zac))))) zau) (zag (zan (zcy (zaa (zae C_onward_sum (hr.mono (by decide)) (zaa (fe_v 0) (zaa (fe_v 1) (zaa (fe_v 2) (zaa (fe_v 3) zac))))) (zaa (zae C_backward_sum (hr.mono (by decide)) (zaa (fe_v 0) (zaa (fe_v 1) (zaa (fe_v 2) (zaa (fe_v 3) zac))))) zac))))))
theorem kk_sums_above (T:TX K mg) (C_backward_sum:Cal P w K mg base 2 "backward_sum" zel) (C_onward_sum:Cal P w K mg base 2 "onward_sum" zfk):Cal P w K mg base 3 "sums_above" zea:=(T.f_sums_above.cal sc_sums_above (fun _ _ _ _ _ _=>ls4 fun _ _ _ _=>rfl) (fun f cdv A outer s H E hr=>d_sums_above T C_backward_sum C_onward_sum hr))
theorem sc_Wood_node:FnScope ["self", "left", "thing", "right", "things", "measures", "sums"] ["self", "left", "thing", "right"] (zab s_Wood_node):=⟨rfl,rfl,rfl,by decide +kernel,rfl,by decide +kernel,by decide +kernel⟩
theorem d_Wood_node (T:TX K mg) (C_Wood_numbered:Mth P w K mg base 1 "Wood" "numbered" zce) (C_check_room:Cal P w K mg base 1 "check_room" zbk) (C_height_above:Cal P w K mg base 2 "height_above" zdq) (C_in_balance:Cal P w K mg base 2 "in_balance" zcg) (C_size_above:Cal P w K mg base 2 "size_above" zeu) (C_sums_above:Cal P w K mg base 3 "sums_above" zea) (hr:Room 3 (A.deeper (envOfC "Wood.node" (zab s_Wood_node) s.heap.objs.size f cdv))) :
   FSs (cxOf CX0 P w K mg base ["self", "left", "thing", "right", "things", "measures", "sums"] "Wood.node" (zab s_Wood_node) f cdv A outer s H E).nox (zaj s_Wood_node) c_Wood_node:=by
 have nd:=sc_Wood_node.nd
 exact (zad (zat 4 (zae C_size_above (hr.mono (by decide)) (zaa (fe_v 1) (zaa (fe_v 3) zac))) nd) (zad (zbw (zae C_check_room (hr.mono (by decide)) (zaa (fe_v 4) zac))) (zad (zbu (fb_not (fb_val (zae C_in_balance (hr.mono (by decide)) (zaa (fe_v 1) (zaa (fe_v 3) zac))))) (zag fs_never) zau) (zad (zat 5 (zcy (zaa (fe_v 4) (zaa (zae C_height_above (hr.mono (by decide)) (zaa (fe_v 1) (zaa (fe_v 3) zac))) zac))) nd) (zad (zat 6 (zae C_sums_above (hr.mono (by decide)) (zaa (zcp T.w_Wood_adding (fe_v 0)) (zaa (fe_v 1) (zaa (fe_v 2) (zaa (fe_v 3) zac))))) nd) (zag (zan (zbd C_Wood_numbered (hr.mono (by decide)) (fe_v 0) (zaa (zbg (zbg (zcy (zaa fe_bl (zaa (fe_v 1) (zaa (fe_v 2) (zaa (fe_v 3) zac))))) (fe_v 5)) (fe_v 6)) zac)))))))))
theorem kk_Wood_node (T:TX K mg) (C_Wood_numbered:Mth P w K mg base 1 "Wood" "numbered" zce) (C_check_room:Cal P w K mg base 1 "check_room" zbk) (C_height_above:Cal P w K mg base 2 "height_above" zdq) (C_in_balance:Cal P w K mg base 2 "in_balance" zcg) (C_size_above:Cal P w K mg base 2 "size_above" zeu) (C_sums_above:Cal P w K mg base 3 "sums_above" zea):Mth P w K mg base 4 "Wood" "node" zao:=T.f_Wood_node.mth sc_Wood_node (fun _ _ _ _ _ _=>ls4 fun _ _ _ _=>rfl) (fun f cdv A outer s H E hr=>d_Wood_node T C_Wood_numbered C_check_room C_height_above C_in_balance C_size_above C_sums_above hr)
theorem sc_built:FnScope ["wood", "things", "start", "end", "middle", "left", "right"] ["wood", "things", "start", "end"] (zab s_built):=⟨rfl,rfl,rfl,by decide +kernel,rfl,by decide +kernel,by decide +kernel⟩
theorem d_built (T:TX K mg) (C_Wood_node:Mth P w K mg base 4 "Wood" "node" zao) {self:G}{n:Nat} (hself:Cal P w K mg base (5 + n) "built" self) (hr0:Room (5 + n) (A.deeper (envOfC "built" (zab s_built) s.heap.objs.size f cdv))) :
   FSs (cxOf CX0 P w K mg base ["wood", "things", "start", "end", "middle", "left", "right"] "built" (zab s_built) f cdv A outer s H E).nox (zaj s_built) (c_built self):=by
 have nd:=sc_built.nd
 have hr:=hr0.mono (Nat.le_add_right 5 n)
 exact (zad (zbu (zfl hr (fe_v 2) (fe_v 3)) (zag (zan zcb)) zau) (zad (zat 4 (zen (zbg (fe_v 2) (fe_v 3)) zai) nd) (zad (zat 5 (zae hself hr0 (zaa (fe_v 0) (zaa (fe_v 1) (zaa (fe_v 2) (zaa (fe_v 4) zac))))) nd) (zad (zat 6 (zae hself hr0 (zaa (fe_v 0) (zaa (fe_v 1) (zaa (zbg (fe_v 4) zai) (zaa (fe_v 3) zac))))) nd) (zag (zan (zbd C_Wood_node (hr.mono (by decide)) (fe_v 0) (zaa (fe_v 5) (zaa (zav (fe_v 1) (fe_v 4)) (zaa (fe_v 6) zac))))))))))
theorem kk_built (T:TX K mg) (C_Wood_node:Mth P w K mg base 4 "Wood" "node" zao):∀n:Nat,Cal P w K mg base (5 + n) "built" (g_built n)
 | 0=>T.f_built.none0 (ps:=["wood", "things", "start", "end"]) (fun _ _ _ _ _ _=>ls4 fun _ _ _ _=>rfl)
 | n + 1=>T.f_built.cal sc_built (fun _ _ _ _ _ _=>ls4 fun _ _ _ _=>rfl) (fun f cdv A outer s H E hr=>d_built T C_Wood_node (kk_built T C_Wood_node n) hr)
theorem sc_make_of:FnScope ["wood", "things"] ["wood", "things"] (zab s_make_of):=⟨rfl,rfl,rfl,by decide +kernel,rfl,by decide +kernel,by decide +kernel⟩
theorem d_make_of (T:TX K mg) (C_built:Cal P w K mg base (5 + 40) "built" (g_built 40)) (C_check_room:Cal P w K mg base 1 "check_room" zbk) (hr:Room 45 (A.deeper (envOfC "make_of" (zab s_make_of) s.heap.objs.size f cdv))) :
   FSs (cxOf CX0 P w K mg base ["wood", "things"] "make_of" (zab s_make_of) f cdv A outer s H E).nox (zaj s_make_of) c_make_of:=by
 have nd:=sc_make_of.nd
 exact (zad (zbw (zae C_check_room (hr.mono (by decide)) (zaa (fe_len T.b_len (zaa (fe_v 1) zac)) zac))) (zag (zan (zae C_built (hr.mono (by decide)) (zaa (fe_v 0) (zaa (fe_v 1) (zaa zai (zaa (fe_len T.b_len (zaa (fe_v 1) zac)) zac))))))))
theorem kk_make_of (T:TX K mg) (C_built:Cal P w K mg base (5 + 40) "built" (g_built 40)) (C_check_room:Cal P w K mg base 1 "check_room" zbk):Cal P w K mg base 46 "make_of" g_make_of:=(T.f_make_of.cal sc_make_of (fun _ _ _ _ _ _=>ls2 fun _ _=>rfl) (fun f cdv A outer s H E hr=>d_make_of T C_built C_check_room hr))
theorem dr_make_of (T:TX K mg) (R_check_room:RCal P w K mg base 1 "check_room" zbf) (hr:Room 45 (A.deeper (envOfC "make_of" (zab s_make_of) s.heap.objs.size f cdv))) :
   RSs (cxOf (CX1 P w) P w K mg base ["wood", "things"] "make_of" (zab s_make_of) f cdv A outer s H E) (zaj s_make_of) rc_make_of:=by
 have nd:=sc_make_of.nd
 exact (zbs (zcq (zdt R_check_room (hr.mono (by decide)) (zaa (fe_len T.b_len (zaa (fe_v 1) zac)) zac))))
theorem kr_make_of (T:TX K mg) (R_check_room:RCal P w K mg base 1 "check_room" zbf):RCal P w K mg base 46 "make_of" zfh:=T.f_make_of.rcal sc_make_of (fun _ _ _ _ _ _=>ls2 fun _ _=>rfl) (fun f cdv A outer s H E hr=>dr_make_of T R_check_room hr)
theorem sc_Shelf___init__:FnScope ["self", "wood", "things"] ["self", "wood", "things"] (zab s_Shelf___init__):=⟨rfl,rfl,rfl,by decide +kernel,rfl,by decide +kernel,by decide +kernel⟩
theorem d_Shelf___init__ (T:TX K mg) (C_make_of:Cal P w K mg base 46 "make_of" g_make_of) (hr:Room 46 (A.deeper (envOfC "Shelf.__init__" (zab s_Shelf___init__) s.heap.objs.size f cdv))) :
   FSs (cxOf CX0 P w K mg base ["self", "wood", "things"] "Shelf.__init__" (zab s_Shelf___init__) f cdv A outer s H E).nox (zaj s_Shelf___init__) c_Shelf___init__:=by
 have nd:=sc_Shelf___init__.nd
 exact (zad (fs_fld T.w_Shelf_wood (fe_v 0) (fe_v 1)) (zad (fs_fld T.w_Shelf_held (fe_v 0) zcb) (zad (fs_fld T.w_Shelf_done (fe_v 0) (fe_newL zac)) (zag (zbu (fb_isNot (fe_v 2) zcb) (zag (fs_fld T.w_Shelf_held (fe_v 0) (zae C_make_of (hr.mono (by decide)) (zaa (fe_v 1) (zaa (fe_v 2) zac))))) zau)))))
theorem kk_Shelf___init__ (T:TX K mg) (C_make_of:Cal P w K mg base 46 "make_of" g_make_of):Mak P w K mg base 47 "Shelf" zas:=T.f_Shelf___init__.mk1 sc_Shelf___init__ (fun _ _ _ _ _ _ _=>ls3 fun _ _ _=>⟨_,rfl,rfl⟩) (fun f cdv A outer s H E hr=>d_Shelf___init__ T C_make_of hr)
theorem kd_Shelf___init__ (T:TX K mg) (C_make_of:Cal P w K mg base 46 "make_of" g_make_of):Mak P w K mg base 47 "Shelf" (dflt 1 zas):=T.f_Shelf___init__.mk1d sc_Shelf___init__ rfl (fun _ _ _ _ _ _ _=>ls2 fun _ _=>⟨_,rfl,rfl⟩) (fun f cdv A outer s H E hr=>d_Shelf___init__ T C_make_of hr)
theorem dr_Shelf___init__ (T:TX K mg) (R_make_of:RCal P w K mg base 46 "make_of" zfh) (hr:Room 46 (A.deeper (envOfC "Shelf.__init__" (zab s_Shelf___init__) s.heap.objs.size f cdv))) :
   RSs (cxOf (CX1 P w) P w K mg base ["self", "wood", "things"] "Shelf.__init__" (zab s_Shelf___init__) f cdv A outer s H E) (zaj s_Shelf___init__) rc_Shelf___init__:=by
 have nd:=sc_Shelf___init__.nd
 exact (zfq (fs_fld T.w_Shelf_wood (fe_v 0) (fe_v 1)) (zfq (fs_fld T.w_Shelf_held (fe_v 0) zcb) (zfq (fs_fld T.w_Shelf_done (fe_v 0) (fe_newL zac)) (rss_if (fb_isNot (fe_v 2) zcb) (zbs (rs_fld (zdt R_make_of (hr.mono (by decide)) (zaa (fe_v 1) (zaa (fe_v 2) zac))))) rss_none))))
theorem kr_Shelf___init__ (T:TX K mg) (R_make_of:RCal P w K mg base 46 "make_of" zfh):RMak P w K mg base 47 "Shelf" zcf:=T.f_Shelf___init__.rmk1 sc_Shelf___init__ (fun _ _ _ _ _ _ _=>ls3 fun _ _ _=>⟨_,rfl,rfl⟩) (fun f cdv A outer s H E hr=>dr_Shelf___init__ T R_make_of hr)
theorem sc_Shelf_deeds:FnScope ["self"] ["self"] (zab s_Shelf_deeds):=⟨rfl,rfl,rfl,by decide +kernel,rfl,by decide +kernel,by decide +kernel⟩
theorem d_Shelf_deeds (T:TX K mg) (hr:Room 0 (A.deeper (envOfC "Shelf.deeds" (zab s_Shelf_deeds) s.heap.objs.size f cdv))) :
   FSs (cxOf CX0 P w K mg base ["self"] "Shelf.deeds" (zab s_Shelf_deeds) f cdv A outer s H E).nox (zaj s_Shelf_deeds) c_Shelf_deeds:=by
 have nd:=sc_Shelf_deeds.nd
 exact (zag (zan (fe_listW T.b_list (zaa (zcp T.w_Shelf_done (fe_v 0)) zac))))
theorem kk_Shelf_deeds (T:TX K mg):Mth P w K mg base 1 "Shelf" "deeds" zbx:=T.f_Shelf_deeds.mth sc_Shelf_deeds (fun _ _ _ _ _ _=>ls1 fun _=>rfl) (fun f cdv A outer s H E hr=>d_Shelf_deeds T  hr)
theorem sc_seen:FnScope ["make", "turned"] ["make", "turned"] (zab s_seen):=⟨rfl,rfl,rfl,by decide +kernel,rfl,by decide +kernel,by decide +kernel⟩
theorem d_seen (T:TX K mg) (hr:Room 0 (A.deeper (envOfC "seen" (zab s_seen) s.heap.objs.size f cdv))) :
   FSs (cxOf CX0 P w K mg base ["make", "turned"] "seen" (zab s_seen) f cdv A outer s H E).nox (zaj s_seen) c_seen:=by
 have nd:=sc_seen.nd
 exact (zad (zbu (zfl hr (zav (fe_v 0) (zba T.i_ABOUT)) (fe_v 1)) (zag (zan (zcy (zaa (zav (fe_v 0) (zba T.i_LEFT)) (zaa (zav (fe_v 0) (zba T.i_THING)) (zaa (zav (fe_v 0) (zba T.i_RIGHT)) (zaa fe_bl zac))))))) zau) (zag (zan (zcy (zaa (zav (fe_v 0) (zba T.i_RIGHT)) (zaa (zav (fe_v 0) (zba T.i_THING)) (zaa (zav (fe_v 0) (zba T.i_LEFT)) (zaa fe_bl zac))))))))
theorem kk_seen (T:TX K mg):Cal P w K mg base 1 "seen" g_seen:=(T.f_seen.cal sc_seen (fun _ _ _ _ _ _=>ls2 fun _ _=>rfl) (fun f cdv A outer s H E hr=>d_seen T  hr))
theorem sc_gather:FnScope ["make", "turned", "found", "row"] ["make", "turned", "found"] (zab s_gather):=⟨rfl,rfl,rfl,by decide +kernel,rfl,by decide +kernel,by decide +kernel⟩
theorem d_gather (T:TX K mg) (C_seen:Cal P w K mg base 1 "seen" g_seen) {self:G}{n:Nat} (hself:Cal P w K mg base (2 + n) "gather" self) (hr0:Room (2 + n) (A.deeper (envOfC "gather" (zab s_gather) s.heap.objs.size f cdv))) :
   FSs (cxOf CX0 P w K mg base ["make", "turned", "found", "row"] "gather" (zab s_gather) f cdv A outer s H E).nox (zaj s_gather) (c_gather self):=by
 have nd:=sc_gather.nd
 have hr:=hr0.mono (Nat.le_add_right 2 n)
 exact (zad (zbu (fb_is (fe_v 0) zcb) (zag fs_retN) zau) (zad (zat 3 (zae C_seen (hr.mono (by decide)) (zaa (fe_v 0) (zaa (fe_v 1) zac))) nd) (zad (zbw (zae hself hr0 (zaa (zav (fe_v 3) (zba T.i_AHEAD)) (zaa (zav (fe_v 3) (zba T.i_TURNED)) (zaa (fe_v 2) zac))))) (zad (fs_append (fe_v 2) (zav (fe_v 3) (zba T.i_MIDDLE))) (zag (zbw (zae hself hr0 (zaa (zav (fe_v 3) (zba T.i_BEHIND)) (zaa (zav (fe_v 3) (zba T.i_TURNED)) (zaa (fe_v 2) zac))))))))))
theorem kk_gather (T:TX K mg) (C_seen:Cal P w K mg base 1 "seen" g_seen):∀n:Nat,Cal P w K mg base (2 + n) "gather" (g_gather n)
 | 0=>T.f_gather.none0 (ps:=["make", "turned", "found"]) (fun _ _ _ _ _ _=>ls3 fun _ _ _=>rfl)
 | n + 1=>T.f_gather.cal sc_gather (fun _ _ _ _ _ _=>ls3 fun _ _ _=>rfl) (fun f cdv A outer s H E hr=>d_gather T C_seen (kk_gather T C_seen n) hr)
theorem sc_things_of:FnScope ["make", "found"] ["make"] (zab s_things_of):=⟨rfl,rfl,rfl,by decide +kernel,rfl,by decide +kernel,by decide +kernel⟩
theorem d_things_of (T:TX K mg) (C_gather:Cal P w K mg base (2 + 40) "gather" (g_gather 40)) (hr:Room 42 (A.deeper (envOfC "things_of" (zab s_things_of) s.heap.objs.size f cdv))) :
   FSs (cxOf CX0 P w K mg base ["make", "found"] "things_of" (zab s_things_of) f cdv A outer s H E).nox (zaj s_things_of) c_things_of:=by
 have nd:=sc_things_of.nd
 exact (zad (zat 1 (fe_newL zac) nd) (zad (zbw (zae C_gather (hr.mono (by decide)) (zaa (fe_v 0) (zaa fe_bl (zaa (fe_v 1) zac))))) (zag (zan (fe_v 1)))))
theorem kk_things_of (T:TX K mg) (C_gather:Cal P w K mg base (2 + 40) "gather" (g_gather 40)):Cal P w K mg base 43 "things_of" zfb:=(T.f_things_of.cal sc_things_of (fun _ _ _ _ _ _=>ls1 fun _=>rfl) (fun f cdv A outer s H E hr=>d_things_of T C_gather hr)).frz
theorem sc_Shelf_things:FnScope ["self"] ["self"] (zab s_Shelf_things):=⟨rfl,rfl,rfl,by decide +kernel,rfl,by decide +kernel,by decide +kernel⟩
theorem d_Shelf_things (T:TX K mg) (C_things_of:Cal P w K mg base 43 "things_of" zfb) (hr:Room 43 (A.deeper (envOfC "Shelf.things" (zab s_Shelf_things) s.heap.objs.size f cdv))) :
   FSs (cxOf CX0 P w K mg base ["self"] "Shelf.things" (zab s_Shelf_things) f cdv A outer s H E).nox (zaj s_Shelf_things) c_Shelf_things:=by
 have nd:=sc_Shelf_things.nd
 exact (zag (zan (zae C_things_of (hr.mono (by decide)) (zaa (zcp T.w_Shelf_held (fe_v 0)) zac))))
theorem kk_Shelf_things (T:TX K mg) (C_things_of:Cal P w K mg base 43 "things_of" zfb):Mth P w K mg base 44 "Shelf" "things" zbj:=T.f_Shelf_things.mth sc_Shelf_things (fun _ _ _ _ _ _=>ls1 fun _=>rfl) (fun f cdv A outer s H E hr=>d_Shelf_things T C_things_of hr)
theorem sc_Wood___init__:FnScope ["self", "add"] ["self", "add"] (zab s_Wood___init__):=⟨rfl,rfl,rfl,by decide +kernel,rfl,by decide +kernel,by decide +kernel⟩
theorem d_Wood___init__ (T:TX K mg) (hr:Room 0 (A.deeper (envOfC "Wood.__init__" (zab s_Wood___init__) s.heap.objs.size f cdv))) :
   FSs (cxOf CX0 P w K mg base ["self", "add"] "Wood.__init__" (zab s_Wood___init__) f cdv A outer s H E).nox (zaj s_Wood___init__) c_Wood___init__:=by
 have nd:=sc_Wood___init__.nd
 exact (zad (fs_fld T.w_Wood_adding (fe_v 0) (fe_v 1)) (zag (fs_fld T.w_Wood_nodes_made (fe_v 0) zai)))
theorem kk_Wood___init__ (T:TX K mg):Mak P w K mg base 1 "Wood" zcx:=T.f_Wood___init__.mk1 sc_Wood___init__ (fun _ _ _ _ _ _ _=>ls2 fun _ _=>⟨_,rfl,rfl⟩) (fun f cdv A outer s H E hr=>d_Wood___init__ T  hr)
theorem kd_Wood___init__ (T:TX K mg):Mak P w K mg base 1 "Wood" (dflt 1 zcx):=T.f_Wood___init__.mk1d sc_Wood___init__ rfl (fun _ _ _ _ _ _ _=>ls1 fun _=>⟨_,rfl,rfl⟩) (fun f cdv A outer s H E hr=>d_Wood___init__ T  hr)
theorem sc__law_amount:FnScope ["_law_cell_here"] ["_law_cell_here"] (zab s__law_amount):=⟨rfl,rfl,rfl,by decide +kernel,rfl,by decide +kernel,by decide +kernel⟩
theorem d__law_amount (T:TX K mg) (hr:Room 0 (A.deeper (envOfC "_law_amount" (zab s__law_amount) s.heap.objs.size f cdv))) :
   FSs (cxOf CX0 P w K mg base ["_law_cell_here"] "_law_amount" (zab s__law_amount) f cdv A outer s H E).nox (zaj s__law_amount) c__law_amount:=by
 have nd:=sc__law_amount.nd
 exact (zad (zbu (zfl hr (zbl (fe_v 0) zai) zai) (zag (zan (zbl (zen (fe_v 0) zai) zai))) zau) (zad (zbu (zfl hr (zbl (fe_v 0) zai) zai) (zag (zan (zbl (zen (fe_v 0) zai) zai))) zau) (zag (zan (zbl (zen (fe_v 0) zai) zai)))))
theorem kk__law_amount (T:TX K mg):Cal P w K mg base 1 "_law_amount" zfr:=(T.f__law_amount.cal sc__law_amount (fun _ _ _ _ _ _=>ls1 fun _=>rfl) (fun f cdv A outer s H E hr=>d__law_amount T  hr))
theorem sc__law_cell:FnScope ["_law_script", "_law_k", "_law_base"] ["_law_script", "_law_k"] (zab s__law_cell):=⟨rfl,rfl,rfl,by decide +kernel,rfl,by decide +kernel,by decide +kernel⟩
theorem d__law_cell (T:TX K mg) (hr:Room 0 (A.deeper (envOfC "_law_cell" (zab s__law_cell) s.heap.objs.size f cdv))) :
   FSs (cxOf CX0 P w K mg base ["_law_script", "_law_k", "_law_base"] "_law_cell" (zab s__law_cell) f cdv A outer s H E).nox (zaj s__law_cell) c__law_cell:=by
 have nd:=sc__law_cell.nd
 exact (zad (zbu (fb_lt (fe_v 1) (fe_len T.b_len (zaa (fe_v 0) zac))) (zag (zan (zav (fe_v 0) (fe_v 1)))) zau) (zad (zat 2 (zbg (fe_mul zai (fe_v 1)) zai) nd) (zad (zbu (fb_gt (fe_len T.b_len (zaa (fe_v 0) zac)) zai) (zag (zat 2 (zbg (fe_v 2) (fe_mul (zbl (zav (fe_v 0) (zbl (fe_mul (fe_v 1) zai) (fe_len T.b_len (zaa (fe_v 0) zac)))) zai) zai)) nd)) zau) (zag (zan (zbg (zbl (fe_mul (fe_v 2) (fe_v 2)) zai) (fe_v 1)))))))
theorem kk__law_cell (T:TX K mg):Cal P w K mg base 1 "_law_cell" zdh:=(T.f__law_cell.cal sc__law_cell (fun _ _ _ _ _ _=>ls2 fun _ _=>rfl) (fun f cdv A outer s H E hr=>d__law_cell T  hr))
theorem sc_Shelf_hold:FnScope ["self", "make", "deed"] ["self", "make", "deed"] (zab s_Shelf_hold):=⟨rfl,rfl,rfl,by decide +kernel,rfl,by decide +kernel,by decide +kernel⟩
theorem d_Shelf_hold (T:TX K mg) (hr:Room 0 (A.deeper (envOfC "Shelf.hold" (zab s_Shelf_hold) s.heap.objs.size f cdv))) :
   FSs (cxOf CX0 P w K mg base ["self", "make", "deed"] "Shelf.hold" (zab s_Shelf_hold) f cdv A outer s H E).nox (zaj s_Shelf_hold) c_Shelf_hold:=by
 have nd:=sc_Shelf_hold.nd
 exact (zad (fs_fld T.w_Shelf_held (fe_v 0) (fe_v 1)) (zag (fs_append (zcp T.w_Shelf_done (fe_v 0)) (fe_v 2))))
theorem kk_Shelf_hold (T:TX K mg):Mth P w K mg base 1 "Shelf" "hold" zam:=T.f_Shelf_hold.mth sc_Shelf_hold (fun _ _ _ _ _ _=>ls3 fun _ _ _=>rfl) (fun f cdv A outer s H E hr=>d_Shelf_hold T  hr)
theorem sc_check_place:FnScope ["place", "end"] ["place", "end"] (zab s_check_place):=⟨rfl,rfl,rfl,by decide +kernel,rfl,by decide +kernel,by decide +kernel⟩
theorem d_check_place (T:TX K mg) (hr:Room 0 (A.deeper (envOfC "check_place" (zab s_check_place) s.heap.objs.size f cdv))) :
   FSs (cxOf CX0 P w K mg base ["place", "end"] "check_place" (zab s_check_place) f cdv A outer s H E).nox (zaj s_check_place) c_check_place:=by
 have nd:=sc_check_place.nd
 exact (zag (zbu (fb_not (fb_leLt zai (fe_v 0) (fe_v 1))) (zag fs_never) zau))
theorem kk_check_place (T:TX K mg):Cal P w K mg base 1 "check_place" zay:=(T.f_check_place.cal sc_check_place (fun _ _ _ _ _ _=>ls2 fun _ _=>rfl) (fun f cdv A outer s H E hr=>d_check_place T  hr))
theorem dr_check_place (T:TX K mg) (hr:Room 0 (A.deeper (envOfC "check_place" (zab s_check_place) s.heap.objs.size f cdv))) :
   RSs (cxOf (CX1 P w) P w K mg base ["place", "end"] "check_place" (zab s_check_place) f cdv A outer s H E) (zaj s_check_place) zff:=by
 have nd:=sc_check_place.nd
 exact (rss_if (fb_not (fb_leLt zai (fe_v 0) (fe_v 1))) (zbs (rs_raise T.x_NoPlace (zaa zca zac))) rss_none)
theorem kr_check_place (T:TX K mg):RCal P w K mg base 1 "check_place" zap:=T.f_check_place.rcal sc_check_place (fun _ _ _ _ _ _=>ls2 fun _ _=>rfl) (fun f cdv A outer s H E hr=>dr_check_place T  hr)
theorem sc_thing_at:FnScope ["make", "turned", "place", "row", "middle"] ["make", "turned", "place"] (zab s_thing_at):=⟨rfl,rfl,rfl,by decide +kernel,rfl,by decide +kernel,by decide +kernel⟩
theorem d_thing_at (T:TX K mg) (C_seen:Cal P w K mg base 1 "seen" g_seen) (C_size:Cal P w K mg base 1 "size" zaw) {self:G}{n:Nat} (hself:Cal P w K mg base (2 + n) "thing_at" self) (hr0:Room (2 + n) (A.deeper (envOfC "thing_at" (zab s_thing_at) s.heap.objs.size f cdv))) :
   FSs (cxOf CX0 P w K mg base ["make", "turned", "place", "row", "middle"] "thing_at" (zab s_thing_at) f cdv A outer s H E).nox (zaj s_thing_at) (c_thing_at self):=by
 have nd:=sc_thing_at.nd
 have hr:=hr0.mono (Nat.le_add_right 2 n)
 exact (zad (zat 3 (zae C_seen (hr.mono (by decide)) (zaa (fe_v 0) (zaa (fe_v 1) zac))) nd) (zad (zat 4 (zae C_size (hr.mono (by decide)) (zaa (zav (fe_v 3) (zba T.i_AHEAD)) zac)) nd) (zad (zbu (fb_lt (fe_v 2) (fe_v 4)) (zag (zan (zae hself hr0 (zaa (zav (fe_v 3) (zba T.i_AHEAD)) (zaa (zav (fe_v 3) (zba T.i_TURNED)) (zaa (fe_v 2) zac)))))) zau) (zad (zbu (fb_gt (fe_v 2) (fe_v 4)) (zag (zan (zae hself hr0 (zaa (zav (fe_v 3) (zba T.i_BEHIND)) (zaa (zav (fe_v 3) (zba T.i_TURNED)) (zaa (zem (zem (fe_v 2) (fe_v 4)) zai) zac)))))) zau) (zag (zan (zav (fe_v 3) (zba T.i_MIDDLE))))))))
theorem kk_thing_at (T:TX K mg) (C_seen:Cal P w K mg base 1 "seen" g_seen) (C_size:Cal P w K mg base 1 "size" zaw):∀n:Nat,Cal P w K mg base (2 + n) "thing_at" (zdp n)
 | 0=>T.f_thing_at.none0 (ps:=["make", "turned", "place"]) (fun _ _ _ _ _ _=>ls3 fun _ _ _=>rfl)
 | n + 1=>T.f_thing_at.cal sc_thing_at (fun _ _ _ _ _ _=>ls3 fun _ _ _=>rfl) (fun f cdv A outer s H E hr=>d_thing_at T C_seen C_size (kk_thing_at T C_seen C_size n) hr)
theorem sc_at:FnScope ["make", "place"] ["make", "place"] (zab s_at):=⟨rfl,rfl,rfl,by decide +kernel,rfl,by decide +kernel,by decide +kernel⟩
theorem d_at (T:TX K mg) (C_check_place:Cal P w K mg base 1 "check_place" zay) (C_size:Cal P w K mg base 1 "size" zaw) (C_thing_at:Cal P w K mg base (2 + 40) "thing_at" (zdp 40)) (hr:Room 42 (A.deeper (envOfC "at" (zab s_at) s.heap.objs.size f cdv))) :
   FSs (cxOf CX0 P w K mg base ["make", "place"] "at" (zab s_at) f cdv A outer s H E).nox (zaj s_at) c_at:=by
 have nd:=sc_at.nd
 exact (zad (zbw (zae C_check_place (hr.mono (by decide)) (zaa (fe_v 1) (zaa (zae C_size (hr.mono (by decide)) (zaa (fe_v 0) zac)) zac)))) (zag (zan (zae C_thing_at (hr.mono (by decide)) (zaa (fe_v 0) (zaa fe_bl (zaa (fe_v 1) zac)))))))
theorem kk_at (T:TX K mg) (C_check_place:Cal P w K mg base 1 "check_place" zay) (C_size:Cal P w K mg base 1 "size" zaw) (C_thing_at:Cal P w K mg base (2 + 40) "thing_at" (zdp 40)):Cal P w K mg base 43 "at" g_at:=(T.f_at.cal sc_at (fun _ _ _ _ _ _=>ls2 fun _ _=>rfl) (fun f cdv A outer s H E hr=>d_at T C_check_place C_size C_thing_at hr))
theorem dr_at (T:TX K mg) (C_size:Cal P w K mg base 1 "size" zaw) (R_check_place:RCal P w K mg base 1 "check_place" zap) (hr:Room 42 (A.deeper (envOfC "at" (zab s_at) s.heap.objs.size f cdv))) :
   RSs (cxOf (CX1 P w) P w K mg base ["make", "place"] "at" (zab s_at) f cdv A outer s H E) (zaj s_at) rc_at:=by
 have nd:=sc_at.nd
 exact (zbs (zcq (zdt R_check_place (hr.mono (by decide)) (zaa (fe_v 1) (zaa (zae C_size (hr.mono (by decide)) (zaa (fe_v 0) zac)) zac)))))
theorem kr_at (T:TX K mg) (C_size:Cal P w K mg base 1 "size" zaw) (R_check_place:RCal P w K mg base 1 "check_place" zap):RCal P w K mg base 43 "at" r_at:=T.f_at.rcal sc_at (fun _ _ _ _ _ _=>ls2 fun _ _=>rfl) (fun f cdv A outer s H E hr=>dr_at T C_size R_check_place hr)
theorem sc_Wood_turned:FnScope ["self", "make", "row"] ["self", "make"] (zab s_Wood_turned):=⟨rfl,rfl,rfl,by decide +kernel,rfl,by decide +kernel,by decide +kernel⟩
theorem d_Wood_turned (T:TX K mg) (C_Wood_numbered:Mth P w K mg base 1 "Wood" "numbered" zce) (C_back:Cal P w K mg base 1 "back" g_back) (C_height:Cal P w K mg base 1 "height" zbi) (C_size:Cal P w K mg base 1 "size" zaw) (C_total:Cal P w K mg base 1 "total" zfa) (hr:Room 1 (A.deeper (envOfC "Wood.turned" (zab s_Wood_turned) s.heap.objs.size f cdv))) :
   FSs (cxOf CX0 P w K mg base ["self", "make", "row"] "Wood.turned" (zab s_Wood_turned) f cdv A outer s H E).nox (zaj s_Wood_turned) c_Wood_turned:=by
 have nd:=sc_Wood_turned.nd
 exact (zad (zbu (fb_is (fe_v 1) zcb) (zag (zan zcb)) zau) (zad (zat 2 (zcy (zaa (zav (fe_v 1) (zba T.i_LEFT)) (zaa (zav (fe_v 1) (zba T.i_THING)) (zaa (zav (fe_v 1) (zba T.i_RIGHT)) zac)))) nd) (zag (zan (zbd C_Wood_numbered (hr.mono (by decide)) (fe_v 0) (zaa (zbg (zbg (zcy (zaa (fe_not (zav (fe_v 1) (zba T.i_ABOUT))) zac)) (fe_v 2)) (zcy (zaa (zae C_size (hr.mono (by decide)) (zaa (fe_v 1) zac)) (zaa (zae C_height (hr.mono (by decide)) (zaa (fe_v 1) zac)) (zaa (zae C_back (hr.mono (by decide)) (zaa (fe_v 1) zac)) (zaa (zae C_total (hr.mono (by decide)) (zaa (fe_v 1) zac)) zac)))))) zac))))))
theorem kk_Wood_turned (T:TX K mg) (C_Wood_numbered:Mth P w K mg base 1 "Wood" "numbered" zce) (C_back:Cal P w K mg base 1 "back" g_back) (C_height:Cal P w K mg base 1 "height" zbi) (C_size:Cal P w K mg base 1 "size" zaw) (C_total:Cal P w K mg base 1 "total" zfa):Mth P w K mg base 2 "Wood" "turned" zbn:=T.f_Wood_turned.mth sc_Wood_turned (fun _ _ _ _ _ _=>ls2 fun _ _=>rfl) (fun f cdv A outer s H E hr=>d_Wood_turned T C_Wood_numbered C_back C_height C_size C_total hr)
theorem sc_parts:FnScope ["wood", "make", "ahead", "behind"] ["wood", "make"] (zab s_parts):=⟨rfl,rfl,rfl,by decide +kernel,rfl,by decide +kernel,by decide +kernel⟩
theorem d_parts (T:TX K mg) (C_Wood_turned:Mth P w K mg base 2 "Wood" "turned" zbn) (hr:Room 2 (A.deeper (envOfC "parts" (zab s_parts) s.heap.objs.size f cdv))) :
   FSs (cxOf CX0 P w K mg base ["wood", "make", "ahead", "behind"] "parts" (zab s_parts) f cdv A outer s H E).nox (zaj s_parts) c_parts:=by
 have nd:=sc_parts.nd
 exact (zad (zbu (fb_not (fb_val (zav (fe_v 1) (zba T.i_ABOUT)))) (zag (zan (zcy (zaa (zav (fe_v 1) (zba T.i_LEFT)) (zaa (zav (fe_v 1) (zba T.i_THING)) (zaa (zav (fe_v 1) (zba T.i_RIGHT)) zac)))))) zau) (zad (zat 2 (zbd C_Wood_turned (hr.mono (by decide)) (fe_v 0) (zaa (zav (fe_v 1) (zba T.i_RIGHT)) zac)) nd) (zad (zat 3 (zbd C_Wood_turned (hr.mono (by decide)) (fe_v 0) (zaa (zav (fe_v 1) (zba T.i_LEFT)) zac)) nd) (zag (zan (zcy (zaa (fe_v 2) (zaa (zav (fe_v 1) (zba T.i_THING)) (zaa (fe_v 3) zac)))))))))
theorem kk_parts (T:TX K mg) (C_Wood_turned:Mth P w K mg base 2 "Wood" "turned" zbn):Cal P w K mg base 3 "parts" zch:=(T.f_parts.cal sc_parts (fun _ _ _ _ _ _=>ls2 fun _ _=>rfl) (fun f cdv A outer s H E hr=>d_parts T C_Wood_turned hr))
theorem sc_lifted_left:FnScope ["wood", "left", "thing", "right", "outer", "inner", "ahead", "behind"] ["wood", "left", "thing", "right"] (zab s_lifted_left):=⟨rfl,rfl,rfl,by decide +kernel,rfl,by decide +kernel,by decide +kernel⟩
theorem d_lifted_left (T:TX K mg) (C_Wood_node:Mth P w K mg base 4 "Wood" "node" zao) (C_height:Cal P w K mg base 1 "height" zbi) (C_parts:Cal P w K mg base 3 "parts" zch) (hr:Room 4 (A.deeper (envOfC "lifted_left" (zab s_lifted_left) s.heap.objs.size f cdv))) :
   FSs (cxOf CX0 P w K mg base ["wood", "left", "thing", "right", "outer", "inner", "ahead", "behind"] "lifted_left" (zab s_lifted_left) f cdv A outer s H E).nox (zaj s_lifted_left) c_lifted_left:=by
 have nd:=sc_lifted_left.nd
 exact (zad (zat 4 (zae C_parts (hr.mono (by decide)) (zaa (fe_v 0) (zaa (fe_v 1) zac))) nd) (zad (zbu (fb_ge (zae C_height (hr.mono (by decide)) (zaa (zav (fe_v 4) (zba T.i_AHEAD)) zac)) (zae C_height (hr.mono (by decide)) (zaa (zav (fe_v 4) (zba T.i_BEHIND)) zac))) (zag (zan (zbd C_Wood_node (hr.mono (by decide)) (fe_v 0) (zaa (zav (fe_v 4) (zba T.i_AHEAD)) (zaa (zav (fe_v 4) (zba T.i_MIDDLE)) (zaa (zbd C_Wood_node (hr.mono (by decide)) (fe_v 0) (zaa (zav (fe_v 4) (zba T.i_BEHIND)) (zaa (fe_v 2) (zaa (fe_v 3) zac)))) zac)))))) zau) (zad (zat 5 (zae C_parts (hr.mono (by decide)) (zaa (fe_v 0) (zaa (zav (fe_v 4) (zba T.i_BEHIND)) zac))) nd) (zad (zat 6 (zbd C_Wood_node (hr.mono (by decide)) (fe_v 0) (zaa (zav (fe_v 4) (zba T.i_AHEAD)) (zaa (zav (fe_v 4) (zba T.i_MIDDLE)) (zaa (zav (fe_v 5) (zba T.i_AHEAD)) zac)))) nd) (zad (zat 7 (zbd C_Wood_node (hr.mono (by decide)) (fe_v 0) (zaa (zav (fe_v 5) (zba T.i_BEHIND)) (zaa (fe_v 2) (zaa (fe_v 3) zac)))) nd) (zag (zan (zbd C_Wood_node (hr.mono (by decide)) (fe_v 0) (zaa (fe_v 6) (zaa (zav (fe_v 5) (zba T.i_MIDDLE)) (zaa (fe_v 7) zac)))))))))))
theorem kk_lifted_left (T:TX K mg) (C_Wood_node:Mth P w K mg base 4 "Wood" "node" zao) (C_height:Cal P w K mg base 1 "height" zbi) (C_parts:Cal P w K mg base 3 "parts" zch):Cal P w K mg base 5 "lifted_left" zew:=(T.f_lifted_left.cal sc_lifted_left (fun _ _ _ _ _ _=>ls4 fun _ _ _ _=>rfl) (fun f cdv A outer s H E hr=>d_lifted_left T C_Wood_node C_height C_parts hr))
theorem sc_lifted_right:FnScope ["wood", "left", "thing", "right", "outer", "inner", "ahead", "behind"] ["wood", "left", "thing", "right"] (zab s_lifted_right):=⟨rfl,rfl,rfl,by decide +kernel,rfl,by decide +kernel,by decide +kernel⟩
theorem d_lifted_right (T:TX K mg) (C_Wood_node:Mth P w K mg base 4 "Wood" "node" zao) (C_height:Cal P w K mg base 1 "height" zbi) (C_parts:Cal P w K mg base 3 "parts" zch) (hr:Room 4 (A.deeper (envOfC "lifted_right" (zab s_lifted_right) s.heap.objs.size f cdv))) :
   FSs (cxOf CX0 P w K mg base ["wood", "left", "thing", "right", "outer", "inner", "ahead", "behind"] "lifted_right" (zab s_lifted_right) f cdv A outer s H E).nox (zaj s_lifted_right) c_lifted_right:=by
 have nd:=sc_lifted_right.nd
 exact (zad (zat 4 (zae C_parts (hr.mono (by decide)) (zaa (fe_v 0) (zaa (fe_v 3) zac))) nd) (zad (zbu (fb_ge (zae C_height (hr.mono (by decide)) (zaa (zav (fe_v 4) (zba T.i_BEHIND)) zac)) (zae C_height (hr.mono (by decide)) (zaa (zav (fe_v 4) (zba T.i_AHEAD)) zac))) (zag (zan (zbd C_Wood_node (hr.mono (by decide)) (fe_v 0) (zaa (zbd C_Wood_node (hr.mono (by decide)) (fe_v 0) (zaa (fe_v 1) (zaa (fe_v 2) (zaa (zav (fe_v 4) (zba T.i_AHEAD)) zac)))) (zaa (zav (fe_v 4) (zba T.i_MIDDLE)) (zaa (zav (fe_v 4) (zba T.i_BEHIND)) zac)))))) zau) (zad (zat 5 (zae C_parts (hr.mono (by decide)) (zaa (fe_v 0) (zaa (zav (fe_v 4) (zba T.i_AHEAD)) zac))) nd) (zad (zat 6 (zbd C_Wood_node (hr.mono (by decide)) (fe_v 0) (zaa (fe_v 1) (zaa (fe_v 2) (zaa (zav (fe_v 5) (zba T.i_AHEAD)) zac)))) nd) (zad (zat 7 (zbd C_Wood_node (hr.mono (by decide)) (fe_v 0) (zaa (zav (fe_v 5) (zba T.i_BEHIND)) (zaa (zav (fe_v 4) (zba T.i_MIDDLE)) (zaa (zav (fe_v 4) (zba T.i_BEHIND)) zac)))) nd) (zag (zan (zbd C_Wood_node (hr.mono (by decide)) (fe_v 0) (zaa (fe_v 6) (zaa (zav (fe_v 5) (zba T.i_MIDDLE)) (zaa (fe_v 7) zac)))))))))))
theorem kk_lifted_right (T:TX K mg) (C_Wood_node:Mth P w K mg base 4 "Wood" "node" zao) (C_height:Cal P w K mg base 1 "height" zbi) (C_parts:Cal P w K mg base 3 "parts" zch):Cal P w K mg base 5 "lifted_right" zek:=(T.f_lifted_right.cal sc_lifted_right (fun _ _ _ _ _ _=>ls4 fun _ _ _ _=>rfl) (fun f cdv A outer s H E hr=>d_lifted_right T C_Wood_node C_height C_parts hr))
theorem sc_balanced:FnScope ["wood", "left", "thing", "right"] ["wood", "left", "thing", "right"] (zab s_balanced):=⟨rfl,rfl,rfl,by decide +kernel,rfl,by decide +kernel,by decide +kernel⟩
theorem d_balanced (T:TX K mg) (C_Wood_node:Mth P w K mg base 4 "Wood" "node" zao) (C_height:Cal P w K mg base 1 "height" zbi) (C_in_balance:Cal P w K mg base 2 "in_balance" zcg) (C_lifted_left:Cal P w K mg base 5 "lifted_left" zew) (C_lifted_right:Cal P w K mg base 5 "lifted_right" zek) (hr:Room 5 (A.deeper (envOfC "balanced" (zab s_balanced) s.heap.objs.size f cdv))) :
   FSs (cxOf CX0 P w K mg base ["wood", "left", "thing", "right"] "balanced" (zab s_balanced) f cdv A outer s H E).nox (zaj s_balanced) c_balanced:=by
 have nd:=sc_balanced.nd
 exact (zad (zbu (fb_val (zae C_in_balance (hr.mono (by decide)) (zaa (fe_v 1) (zaa (fe_v 3) zac)))) (zag (zan (zbd C_Wood_node (hr.mono (by decide)) (fe_v 0) (zaa (fe_v 1) (zaa (fe_v 2) (zaa (fe_v 3) zac)))))) zau) (zad (zbu (fb_gt (zae C_height (hr.mono (by decide)) (zaa (fe_v 1) zac)) (zae C_height (hr.mono (by decide)) (zaa (fe_v 3) zac))) (zag (zan (zae C_lifted_left (hr.mono (by decide)) (zaa (fe_v 0) (zaa (fe_v 1) (zaa (fe_v 2) (zaa (fe_v 3) zac))))))) zau) (zag (zan (zae C_lifted_right (hr.mono (by decide)) (zaa (fe_v 0) (zaa (fe_v 1) (zaa (fe_v 2) (zaa (fe_v 3) zac)))))))))
theorem kk_balanced (T:TX K mg) (C_Wood_node:Mth P w K mg base 4 "Wood" "node" zao) (C_height:Cal P w K mg base 1 "height" zbi) (C_in_balance:Cal P w K mg base 2 "in_balance" zcg) (C_lifted_left:Cal P w K mg base 5 "lifted_left" zew) (C_lifted_right:Cal P w K mg base 5 "lifted_right" zek):Cal P w K mg base 6 "balanced" zco:=(T.f_balanced.cal sc_balanced (fun _ _ _ _ _ _=>ls4 fun _ _ _ _=>rfl) (fun f cdv A outer s H E hr=>d_balanced T C_Wood_node C_height C_in_balance C_lifted_left C_lifted_right hr))
theorem sc_joined:FnScope ["wood", "left", "thing", "right", "row"] ["wood", "left", "thing", "right"] (zab s_joined):=⟨rfl,rfl,rfl,by decide +kernel,rfl,by decide +kernel,by decide +kernel⟩
theorem d_joined (T:TX K mg) (C_Wood_node:Mth P w K mg base 4 "Wood" "node" zao) (C_balanced:Cal P w K mg base 6 "balanced" zco) (C_height:Cal P w K mg base 1 "height" zbi) (C_in_balance:Cal P w K mg base 2 "in_balance" zcg) (C_parts:Cal P w K mg base 3 "parts" zch) {self:G}{n:Nat} (hself:Cal P w K mg base (7 + n) "joined" self) (hr0:Room (7 + n) (A.deeper (envOfC "joined" (zab s_joined) s.heap.objs.size f cdv))) :
   FSs (cxOf CX0 P w K mg base ["wood", "left", "thing", "right", "row"] "joined" (zab s_joined) f cdv A outer s H E).nox (zaj s_joined) (c_joined self):=by
 have nd:=sc_joined.nd
 have hr:=hr0.mono (Nat.le_add_right 7 n)
 exact (zad (zbu (fb_val (zae C_in_balance (hr.mono (by decide)) (zaa (fe_v 1) (zaa (fe_v 3) zac)))) (zag (zan (zbd C_Wood_node (hr.mono (by decide)) (fe_v 0) (zaa (fe_v 1) (zaa (fe_v 2) (zaa (fe_v 3) zac)))))) zau) (zad (zbu (fb_gt (zae C_height (hr.mono (by decide)) (zaa (fe_v 1) zac)) (zae C_height (hr.mono (by decide)) (zaa (fe_v 3) zac))) (zad (zat 4 (zae C_parts (hr.mono (by decide)) (zaa (fe_v 0) (zaa (fe_v 1) zac))) nd) (zag (zan (zae C_balanced (hr.mono (by decide)) (zaa (fe_v 0) (zaa (zav (fe_v 4) (zba T.i_AHEAD)) (zaa (zav (fe_v 4) (zba T.i_MIDDLE)) (zaa (zae hself hr0 (zaa (fe_v 0) (zaa (zav (fe_v 4) (zba T.i_BEHIND)) (zaa (fe_v 2) (zaa (fe_v 3) zac))))) zac)))))))) zau) (zad (zat 4 (zae C_parts (hr.mono (by decide)) (zaa (fe_v 0) (zaa (fe_v 3) zac))) nd) (zag (zan (zae C_balanced (hr.mono (by decide)) (zaa (fe_v 0) (zaa (zae hself hr0 (zaa (fe_v 0) (zaa (fe_v 1) (zaa (fe_v 2) (zaa (zav (fe_v 4) (zba T.i_AHEAD)) zac))))) (zaa (zav (fe_v 4) (zba T.i_MIDDLE)) (zaa (zav (fe_v 4) (zba T.i_BEHIND)) zac))))))))))
theorem kk_joined (T:TX K mg) (C_Wood_node:Mth P w K mg base 4 "Wood" "node" zao) (C_balanced:Cal P w K mg base 6 "balanced" zco) (C_height:Cal P w K mg base 1 "height" zbi) (C_in_balance:Cal P w K mg base 2 "in_balance" zcg) (C_parts:Cal P w K mg base 3 "parts" zch):∀n:Nat,Cal P w K mg base (7 + n) "joined" (zex n)
 | 0=>T.f_joined.none0 (ps:=["wood", "left", "thing", "right"]) (fun _ _ _ _ _ _=>ls4 fun _ _ _ _=>rfl)
 | n + 1=>T.f_joined.cal sc_joined (fun _ _ _ _ _ _=>ls4 fun _ _ _ _=>rfl) (fun f cdv A outer s H E hr=>d_joined T C_Wood_node C_balanced C_height C_in_balance C_parts (kk_joined T C_Wood_node C_balanced C_height C_in_balance C_parts n) hr)
theorem sc_laid_together:FnScope ["wood", "one", "other"] ["wood", "one", "other"] (zab s_laid_together):=⟨rfl,rfl,rfl,by decide +kernel,rfl,by decide +kernel,by decide +kernel⟩
theorem d_laid_together (T:TX K mg) (C_joined:Cal P w K mg base (7 + 40) "joined" (zex 40)) (C_thing_at:Cal P w K mg base (2 + 40) "thing_at" (zdp 40)) {self:G}{n:Nat} (hself:Cal P w K mg base (48 + 2 * n) "taken_out" self) (hr0:Room (48 + 2 * n) (A.deeper (envOfC "laid_together" (zab s_laid_together) s.heap.objs.size f cdv))) :
   FSs (cxOf CX0 P w K mg base ["wood", "one", "other"] "laid_together" (zab s_laid_together) f cdv A outer s H E).nox (zaj s_laid_together) (c_laid_together self):=by
 have nd:=sc_laid_together.nd
 have hr:=hr0.mono (Nat.le_add_right 48 (2 * n))
 exact (zad (zbu (fb_is (fe_v 1) zcb) (zag (zan (fe_v 2))) zau) (zad (zbu (fb_is (fe_v 2) zcb) (zag (zan (fe_v 1))) zau) (zag (zan (zae C_joined (hr.mono (by decide)) (zaa (fe_v 0) (zaa (fe_v 1) (zaa (zae C_thing_at (hr.mono (by decide)) (zaa (fe_v 2) (zaa fe_bl (zaa zai zac)))) (zaa (zae hself hr0 (zaa (fe_v 0) (zaa (fe_v 2) (zaa zai zac)))) zac)))))))))
theorem kk_laid_together (T:TX K mg) (C_joined:Cal P w K mg base (7 + 40) "joined" (zex 40)) (C_thing_at:Cal P w K mg base (2 + 40) "thing_at" (zdp 40)) {self:G}{n:Nat} (hself:Cal P w K mg base (48 + 2 * n) "taken_out" self):Cal P w K mg base (48 + 2 * n + 1) "laid_together" (zdn self):=T.f_laid_together.cal sc_laid_together (fun _ _ _ _ _ _=>ls3 fun _ _ _=>rfl) (fun f cdv A outer s H E hr=>d_laid_together T C_joined C_thing_at hself hr)
theorem sc_taken_out:FnScope ["wood", "make", "place", "row", "middle"] ["wood", "make", "place"] (zab s_taken_out):=⟨rfl,rfl,rfl,by decide +kernel,rfl,by decide +kernel,by decide +kernel⟩
theorem d_taken_out (T:TX K mg) (C_balanced:Cal P w K mg base 6 "balanced" zco) (C_parts:Cal P w K mg base 3 "parts" zch) (C_size:Cal P w K mg base 1 "size" zaw) {self aux:G}{n:Nat} (hself:Cal P w K mg base (48 + 2 * n) "taken_out" self) (haux:Cal P w K mg base (48 + 2 * n + 1) "laid_together" aux) (hr0:Room (48 + 2 * n + 1) (A.deeper (envOfC "taken_out" (zab s_taken_out) s.heap.objs.size f cdv))) :
   FSs (cxOf CX0 P w K mg base ["wood", "make", "place", "row", "middle"] "taken_out" (zab s_taken_out) f cdv A outer s H E).nox (zaj s_taken_out) (c_taken_out self aux):=by
 have nd:=sc_taken_out.nd
 have hr1:=hr0.mono (Nat.le_succ (48 + 2 * n))
 have hr:=hr1.mono (Nat.le_add_right 48 (2 * n))
 exact (zad (zat 3 (zae C_parts (hr.mono (by decide)) (zaa (fe_v 0) (zaa (fe_v 1) zac))) nd) (zad (zat 4 (zae C_size (hr.mono (by decide)) (zaa (zav (fe_v 3) (zba T.i_AHEAD)) zac)) nd) (zad (zbu (fb_lt (fe_v 2) (fe_v 4)) (zag (zan (zae C_balanced (hr.mono (by decide)) (zaa (fe_v 0) (zaa (zae hself hr1 (zaa (fe_v 0) (zaa (zav (fe_v 3) (zba T.i_AHEAD)) (zaa (fe_v 2) zac)))) (zaa (zav (fe_v 3) (zba T.i_MIDDLE)) (zaa (zav (fe_v 3) (zba T.i_BEHIND)) zac))))))) zau) (zad (zbu (fb_gt (fe_v 2) (fe_v 4)) (zag (zan (zae C_balanced (hr.mono (by decide)) (zaa (fe_v 0) (zaa (zav (fe_v 3) (zba T.i_AHEAD)) (zaa (zav (fe_v 3) (zba T.i_MIDDLE)) (zaa (zae hself hr1 (zaa (fe_v 0) (zaa (zav (fe_v 3) (zba T.i_BEHIND)) (zaa (zem (zem (fe_v 2) (fe_v 4)) zai) zac)))) zac))))))) zau) (zag (zan (zae haux hr0 (zaa (fe_v 0) (zaa (zav (fe_v 3) (zba T.i_AHEAD)) (zaa (zav (fe_v 3) (zba T.i_BEHIND)) zac))))))))))
theorem kk_taken_out (T:TX K mg) (C_balanced:Cal P w K mg base 6 "balanced" zco) (C_parts:Cal P w K mg base 3 "parts" zch) (C_size:Cal P w K mg base 1 "size" zaw) (C_joined:Cal P w K mg base (7 + 40) "joined" (zex 40)) (C_thing_at:Cal P w K mg base (2 + 40) "thing_at" (zdp 40)):∀n:Nat,Cal P w K mg base (48 + 2 * n) "taken_out" (zcw n)
 | 0=>T.f_taken_out.none0 (ps:=["wood", "make", "place"]) (fun _ _ _ _ _ _=>ls3 fun _ _ _=>rfl)
 | n + 1=>by
   have ih:=kk_taken_out T C_balanced C_parts C_size C_joined C_thing_at n
   exact (show Cal P w K mg base ((48 + 2 * n + 1) + 1) "taken_out" (zcw (n + 1)) from T.f_taken_out.cal sc_taken_out (fun _ _ _ _ _ _=>ls3 fun _ _ _=>rfl) (fun f cdv A outer s H E hr=>d_taken_out T C_balanced C_parts C_size ih (kk_laid_together T C_joined C_thing_at ih) hr))
theorem sc_out:FnScope ["wood", "make", "place"] ["wood", "make", "place"] (zab s_out):=⟨rfl,rfl,rfl,by decide +kernel,rfl,by decide +kernel,by decide +kernel⟩
theorem d_out (T:TX K mg) (C_check_place:Cal P w K mg base 1 "check_place" zay) (C_size:Cal P w K mg base 1 "size" zaw) (C_taken_out:Cal P w K mg base (48 + 2 * 40) "taken_out" (zcw 40)) (hr:Room 128 (A.deeper (envOfC "out" (zab s_out) s.heap.objs.size f cdv))) :
   FSs (cxOf CX0 P w K mg base ["wood", "make", "place"] "out" (zab s_out) f cdv A outer s H E).nox (zaj s_out) c_out:=by
 have nd:=sc_out.nd
 exact (zad (zbw (zae C_check_place (hr.mono (by decide)) (zaa (fe_v 2) (zaa (zae C_size (hr.mono (by decide)) (zaa (fe_v 1) zac)) zac)))) (zag (zan (zae C_taken_out (hr.mono (by decide)) (zaa (fe_v 0) (zaa (fe_v 1) (zaa (fe_v 2) zac)))))))
theorem kk_out (T:TX K mg) (C_check_place:Cal P w K mg base 1 "check_place" zay) (C_size:Cal P w K mg base 1 "size" zaw) (C_taken_out:Cal P w K mg base (48 + 2 * 40) "taken_out" (zcw 40)):Cal P w K mg base 129 "out" g_out:=(T.f_out.cal sc_out (fun _ _ _ _ _ _=>ls3 fun _ _ _=>rfl) (fun f cdv A outer s H E hr=>d_out T C_check_place C_size C_taken_out hr))
theorem dr_out (T:TX K mg) (C_size:Cal P w K mg base 1 "size" zaw) (R_check_place:RCal P w K mg base 1 "check_place" zap) (hr:Room 128 (A.deeper (envOfC "out" (zab s_out) s.heap.objs.size f cdv))) :
   RSs (cxOf (CX1 P w) P w K mg base ["wood", "make", "place"] "out" (zab s_out) f cdv A outer s H E) (zaj s_out) rc_out:=by
 have nd:=sc_out.nd
 exact (zbs (zcq (zdt R_check_place (hr.mono (by decide)) (zaa (fe_v 2) (zaa (zae C_size (hr.mono (by decide)) (zaa (fe_v 1) zac)) zac)))))
theorem kr_out (T:TX K mg) (C_size:Cal P w K mg base 1 "size" zaw) (R_check_place:RCal P w K mg base 1 "check_place" zap):RCal P w K mg base 129 "out" r_out:=T.f_out.rcal sc_out (fun _ _ _ _ _ _=>ls3 fun _ _ _=>rfl) (fun f cdv A outer s H E hr=>dr_out T C_size R_check_place hr)
theorem sc_Shelf_out:FnScope ["self", "place", "thing"] ["self", "place"] (zab s_Shelf_out):=⟨rfl,rfl,rfl,by decide +kernel,rfl,by decide +kernel,by decide +kernel⟩
theorem d_Shelf_out (T:TX K mg) (C_Shelf_hold:Mth P w K mg base 1 "Shelf" "hold" zam) (C_at:Cal P w K mg base 43 "at" g_at) (C_out_rows:Cal P w K mg base 129 "out_rows" g_out) (hr:Room 129 (A.deeper (envOfC "Shelf.out" (zab s_Shelf_out) s.heap.objs.size f cdv))) :
   FSs (cxOf CX0 P w K mg base ["self", "place", "thing"] "Shelf.out" (zab s_Shelf_out) f cdv A outer s H E).nox (zaj s_Shelf_out) c_Shelf_out:=by
 have nd:=sc_Shelf_out.nd
 exact (zad (zat 2 (zae C_at (hr.mono (by decide)) (zaa (zcp T.w_Shelf_held (fe_v 0)) (zaa (fe_v 1) zac))) nd) (zad (zbw (zbd C_Shelf_hold (hr.mono (by decide)) (fe_v 0) (zaa (zae C_out_rows (hr.mono (by decide)) (zaa (zcp T.w_Shelf_wood (fe_v 0)) (zaa (zcp T.w_Shelf_held (fe_v 0)) (zaa (fe_v 1) zac)))) (zaa (zcy (zaa zca (zaa (fe_v 1) zac))) zac)))) (zag (zan (fe_v 2)))))
theorem kk_Shelf_out (T:TX K mg) (C_Shelf_hold:Mth P w K mg base 1 "Shelf" "hold" zam) (C_at:Cal P w K mg base 43 "at" g_at) (C_out_rows:Cal P w K mg base 129 "out_rows" g_out):Mth P w K mg base 130 "Shelf" "out" zci:=T.f_Shelf_out.mth sc_Shelf_out (fun _ _ _ _ _ _=>ls2 fun _ _=>rfl) (fun f cdv A outer s H E hr=>d_Shelf_out T C_Shelf_hold C_at C_out_rows hr)
theorem dr_Shelf_out (T:TX K mg) (C_Shelf_hold:Mth P w K mg base 1 "Shelf" "hold" zam) (C_at:Cal P w K mg base 43 "at" g_at) (R_at:RCal P w K mg base 43 "at" r_at) (R_out_rows:RCal P w K mg base 129 "out_rows" r_out) (hr:Room 129 (A.deeper (envOfC "Shelf.out" (zab s_Shelf_out) s.heap.objs.size f cdv))) :
   RSs (cxOf (CX1 P w) P w K mg base ["self", "place", "thing"] "Shelf.out" (zab s_Shelf_out) f cdv A outer s H E) (zaj s_Shelf_out) rc_Shelf_out:=by
 have nd:=sc_Shelf_out.nd
 exact (rss_or (zbs (rs_set (zdt R_at (hr.mono (by decide)) (zaa (zcp T.w_Shelf_held (fe_v 0)) (zaa (fe_v 1) zac))))) (zfq (zat 2 (zae C_at (hr.mono (by decide)) (zaa (zcp T.w_Shelf_held (fe_v 0)) (zaa (fe_v 1) zac))) nd) (zbs (zcq (re_methA C_Shelf_hold (fe_v 0) (zdt R_out_rows (hr.mono (by decide)) (zaa (zcp T.w_Shelf_wood (fe_v 0)) (zaa (zcp T.w_Shelf_held (fe_v 0)) (zaa (fe_v 1) zac)))))))))
theorem kr_Shelf_out (T:TX K mg) (C_Shelf_hold:Mth P w K mg base 1 "Shelf" "hold" zam) (C_at:Cal P w K mg base 43 "at" g_at) (R_at:RCal P w K mg base 43 "at" r_at) (R_out_rows:RCal P w K mg base 129 "out_rows" r_out):RMth P w K mg base 130 "Shelf" "out" zep:=T.f_Shelf_out.rmth sc_Shelf_out (fun _ _ _ _ _ _=>ls2 fun _ _=>rfl) (fun f cdv A outer s H E hr=>dr_Shelf_out T C_Shelf_hold C_at R_at R_out_rows hr)
theorem sc_put_in:FnScope ["wood", "make", "place", "thing", "row", "middle"] ["wood", "make", "place", "thing"] (zab s_put_in):=⟨rfl,rfl,rfl,by decide +kernel,rfl,by decide +kernel,by decide +kernel⟩
theorem d_put_in (T:TX K mg) (C_Wood_node:Mth P w K mg base 4 "Wood" "node" zao) (C_balanced:Cal P w K mg base 6 "balanced" zco) (C_parts:Cal P w K mg base 3 "parts" zch) (C_size:Cal P w K mg base 1 "size" zaw) {self:G}{n:Nat} (hself:Cal P w K mg base (7 + n) "put_in" self) (hr0:Room (7 + n) (A.deeper (envOfC "put_in" (zab s_put_in) s.heap.objs.size f cdv))) :
   FSs (cxOf CX0 P w K mg base ["wood", "make", "place", "thing", "row", "middle"] "put_in" (zab s_put_in) f cdv A outer s H E).nox (zaj s_put_in) (c_put_in self):=by
 have nd:=sc_put_in.nd
 have hr:=hr0.mono (Nat.le_add_right 7 n)
 exact (zad (zbu (fb_is (fe_v 1) zcb) (zag (zan (zbd C_Wood_node (hr.mono (by decide)) (fe_v 0) (zaa zcb (zaa (fe_v 3) (zaa zcb zac)))))) zau) (zad (zat 4 (zae C_parts (hr.mono (by decide)) (zaa (fe_v 0) (zaa (fe_v 1) zac))) nd) (zad (zat 5 (zae C_size (hr.mono (by decide)) (zaa (zav (fe_v 4) (zba T.i_AHEAD)) zac)) nd) (zad (zbu (fb_le (fe_v 2) (fe_v 5)) (zag (zan (zae C_balanced (hr.mono (by decide)) (zaa (fe_v 0) (zaa (zae hself hr0 (zaa (fe_v 0) (zaa (zav (fe_v 4) (zba T.i_AHEAD)) (zaa (fe_v 2) (zaa (fe_v 3) zac))))) (zaa (zav (fe_v 4) (zba T.i_MIDDLE)) (zaa (zav (fe_v 4) (zba T.i_BEHIND)) zac))))))) zau) (zag (zan (zae C_balanced (hr.mono (by decide)) (zaa (fe_v 0) (zaa (zav (fe_v 4) (zba T.i_AHEAD)) (zaa (zav (fe_v 4) (zba T.i_MIDDLE)) (zaa (zae hself hr0 (zaa (fe_v 0) (zaa (zav (fe_v 4) (zba T.i_BEHIND)) (zaa (zem (zem (fe_v 2) (fe_v 5)) zai) (zaa (fe_v 3) zac))))) zac)))))))))))
theorem kk_put_in (T:TX K mg) (C_Wood_node:Mth P w K mg base 4 "Wood" "node" zao) (C_balanced:Cal P w K mg base 6 "balanced" zco) (C_parts:Cal P w K mg base 3 "parts" zch) (C_size:Cal P w K mg base 1 "size" zaw):∀n:Nat,Cal P w K mg base (7 + n) "put_in" (g_put_in n)
 | 0=>T.f_put_in.none0 (ps:=["wood", "make", "place", "thing"]) (fun _ _ _ _ _ _=>ls4 fun _ _ _ _=>rfl)
 | n + 1=>T.f_put_in.cal sc_put_in (fun _ _ _ _ _ _=>ls4 fun _ _ _ _=>rfl) (fun f cdv A outer s H E hr=>d_put_in T C_Wood_node C_balanced C_parts C_size (kk_put_in T C_Wood_node C_balanced C_parts C_size n) hr)
theorem sc_put:FnScope ["wood", "make", "place", "thing"] ["wood", "make", "place", "thing"] (zab s_put):=⟨rfl,rfl,rfl,by decide +kernel,rfl,by decide +kernel,by decide +kernel⟩
theorem d_put (T:TX K mg) (C_check_place:Cal P w K mg base 1 "check_place" zay) (C_check_room:Cal P w K mg base 1 "check_room" zbk) (C_put_in:Cal P w K mg base (7 + 40) "put_in" (g_put_in 40)) (C_size:Cal P w K mg base 1 "size" zaw) (hr:Room 47 (A.deeper (envOfC "put" (zab s_put) s.heap.objs.size f cdv))) :
   FSs (cxOf CX0 P w K mg base ["wood", "make", "place", "thing"] "put" (zab s_put) f cdv A outer s H E).nox (zaj s_put) c_put:=by
 have nd:=sc_put.nd
 exact (zad (zbw (zae C_check_place (hr.mono (by decide)) (zaa (fe_v 2) (zaa (zbg (zae C_size (hr.mono (by decide)) (zaa (fe_v 1) zac)) zai) zac)))) (zad (zbw (zae C_check_room (hr.mono (by decide)) (zaa (zbg (zae C_size (hr.mono (by decide)) (zaa (fe_v 1) zac)) zai) zac))) (zag (zan (zae C_put_in (hr.mono (by decide)) (zaa (fe_v 0) (zaa (fe_v 1) (zaa (fe_v 2) (zaa (fe_v 3) zac)))))))))
theorem kk_put (T:TX K mg) (C_check_place:Cal P w K mg base 1 "check_place" zay) (C_check_room:Cal P w K mg base 1 "check_room" zbk) (C_put_in:Cal P w K mg base (7 + 40) "put_in" (g_put_in 40)) (C_size:Cal P w K mg base 1 "size" zaw):Cal P w K mg base 48 "put" g_put:=(T.f_put.cal sc_put (fun _ _ _ _ _ _=>ls4 fun _ _ _ _=>rfl) (fun f cdv A outer s H E hr=>d_put T C_check_place C_check_room C_put_in C_size hr))
theorem dr_put (T:TX K mg) (C_check_place:Cal P w K mg base 1 "check_place" zay) (C_size:Cal P w K mg base 1 "size" zaw) (R_check_place:RCal P w K mg base 1 "check_place" zap) (R_check_room:RCal P w K mg base 1 "check_room" zbf) (hr:Room 47 (A.deeper (envOfC "put" (zab s_put) s.heap.objs.size f cdv))) :
   RSs (cxOf (CX1 P w) P w K mg base ["wood", "make", "place", "thing"] "put" (zab s_put) f cdv A outer s H E) (zaj s_put) rc_put:=by
 have nd:=sc_put.nd
 exact (rss_or (zbs (zcq (zdt R_check_place (hr.mono (by decide)) (zaa (fe_v 2) (zaa (zbg (zae C_size (hr.mono (by decide)) (zaa (fe_v 1) zac)) zai) zac))))) (zfq (zbw (zae C_check_place (hr.mono (by decide)) (zaa (fe_v 2) (zaa (zbg (zae C_size (hr.mono (by decide)) (zaa (fe_v 1) zac)) zai) zac)))) (zbs (zcq (zdt R_check_room (hr.mono (by decide)) (zaa (zbg (zae C_size (hr.mono (by decide)) (zaa (fe_v 1) zac)) zai) zac))))))
theorem kr_put (T:TX K mg) (C_check_place:Cal P w K mg base 1 "check_place" zay) (C_size:Cal P w K mg base 1 "size" zaw) (R_check_place:RCal P w K mg base 1 "check_place" zap) (R_check_room:RCal P w K mg base 1 "check_room" zbf):RCal P w K mg base 48 "put" r_put:=T.f_put.rcal sc_put (fun _ _ _ _ _ _=>ls4 fun _ _ _ _=>rfl) (fun f cdv A outer s H E hr=>dr_put T C_check_place C_size R_check_place R_check_room hr)
theorem sc_Shelf_put:FnScope ["self", "place", "thing"] ["self", "place", "thing"] (zab s_Shelf_put):=⟨rfl,rfl,rfl,by decide +kernel,rfl,by decide +kernel,by decide +kernel⟩
theorem d_Shelf_put (T:TX K mg) (C_Shelf_hold:Mth P w K mg base 1 "Shelf" "hold" zam) (C_put_rows:Cal P w K mg base 48 "put_rows" g_put) (hr:Room 48 (A.deeper (envOfC "Shelf.put" (zab s_Shelf_put) s.heap.objs.size f cdv))) :
   FSs (cxOf CX0 P w K mg base ["self", "place", "thing"] "Shelf.put" (zab s_Shelf_put) f cdv A outer s H E).nox (zaj s_Shelf_put) c_Shelf_put:=by
 have nd:=sc_Shelf_put.nd
 exact (zag (zbw (zbd C_Shelf_hold (hr.mono (by decide)) (fe_v 0) (zaa (zae C_put_rows (hr.mono (by decide)) (zaa (zcp T.w_Shelf_wood (fe_v 0)) (zaa (zcp T.w_Shelf_held (fe_v 0)) (zaa (fe_v 1) (zaa (fe_v 2) zac))))) (zaa (zcy (zaa zca (zaa (fe_v 1) zac))) zac)))))
theorem kk_Shelf_put (T:TX K mg) (C_Shelf_hold:Mth P w K mg base 1 "Shelf" "hold" zam) (C_put_rows:Cal P w K mg base 48 "put_rows" g_put):Mth P w K mg base 49 "Shelf" "put" zbt:=T.f_Shelf_put.mth sc_Shelf_put (fun _ _ _ _ _ _=>ls3 fun _ _ _=>rfl) (fun f cdv A outer s H E hr=>d_Shelf_put T C_Shelf_hold C_put_rows hr)
theorem dr_Shelf_put (T:TX K mg) (C_Shelf_hold:Mth P w K mg base 1 "Shelf" "hold" zam) (R_put_rows:RCal P w K mg base 48 "put_rows" r_put) (hr:Room 48 (A.deeper (envOfC "Shelf.put" (zab s_Shelf_put) s.heap.objs.size f cdv))) :
   RSs (cxOf (CX1 P w) P w K mg base ["self", "place", "thing"] "Shelf.put" (zab s_Shelf_put) f cdv A outer s H E) (zaj s_Shelf_put) rc_Shelf_put:=by
 have nd:=sc_Shelf_put.nd
 exact (zbs (zcq (re_methA C_Shelf_hold (fe_v 0) (zdt R_put_rows (hr.mono (by decide)) (zaa (zcp T.w_Shelf_wood (fe_v 0)) (zaa (zcp T.w_Shelf_held (fe_v 0)) (zaa (fe_v 1) (zaa (fe_v 2) zac))))))))
theorem kr_Shelf_put (T:TX K mg) (C_Shelf_hold:Mth P w K mg base 1 "Shelf" "hold" zam) (R_put_rows:RCal P w K mg base 48 "put_rows" r_put):RMth P w K mg base 49 "Shelf" "put" zcv:=T.f_Shelf_put.rmth sc_Shelf_put (fun _ _ _ _ _ _=>ls3 fun _ _ _=>rfl) (fun f cdv A outer s H E hr=>dr_Shelf_put T C_Shelf_hold R_put_rows hr)
theorem sc_given:FnScope ["wood", "make", "place", "thing", "row", "middle"] ["wood", "make", "place", "thing"] (zab s_given):=⟨rfl,rfl,rfl,by decide +kernel,rfl,by decide +kernel,by decide +kernel⟩
theorem d_given (T:TX K mg) (C_Wood_node:Mth P w K mg base 4 "Wood" "node" zao) (C_parts:Cal P w K mg base 3 "parts" zch) (C_size:Cal P w K mg base 1 "size" zaw) {self:G}{n:Nat} (hself:Cal P w K mg base (5 + n) "given" self) (hr0:Room (5 + n) (A.deeper (envOfC "given" (zab s_given) s.heap.objs.size f cdv))) :
   FSs (cxOf CX0 P w K mg base ["wood", "make", "place", "thing", "row", "middle"] "given" (zab s_given) f cdv A outer s H E).nox (zaj s_given) (c_given self):=by
 have nd:=sc_given.nd
 have hr:=hr0.mono (Nat.le_add_right 5 n)
 exact (zad (zat 4 (zae C_parts (hr.mono (by decide)) (zaa (fe_v 0) (zaa (fe_v 1) zac))) nd) (zad (zat 5 (zae C_size (hr.mono (by decide)) (zaa (zav (fe_v 4) (zba T.i_AHEAD)) zac)) nd) (zad (zbu (fb_lt (fe_v 2) (fe_v 5)) (zag (zan (zbd C_Wood_node (hr.mono (by decide)) (fe_v 0) (zaa (zae hself hr0 (zaa (fe_v 0) (zaa (zav (fe_v 4) (zba T.i_AHEAD)) (zaa (fe_v 2) (zaa (fe_v 3) zac))))) (zaa (zav (fe_v 4) (zba T.i_MIDDLE)) (zaa (zav (fe_v 4) (zba T.i_BEHIND)) zac)))))) zau) (zad (zbu (fb_gt (fe_v 2) (fe_v 5)) (zag (zan (zbd C_Wood_node (hr.mono (by decide)) (fe_v 0) (zaa (zav (fe_v 4) (zba T.i_AHEAD)) (zaa (zav (fe_v 4) (zba T.i_MIDDLE)) (zaa (zae hself hr0 (zaa (fe_v 0) (zaa (zav (fe_v 4) (zba T.i_BEHIND)) (zaa (zem (zem (fe_v 2) (fe_v 5)) zai) (zaa (fe_v 3) zac))))) zac)))))) zau) (zag (zan (zbd C_Wood_node (hr.mono (by decide)) (fe_v 0) (zaa (zav (fe_v 4) (zba T.i_AHEAD)) (zaa (fe_v 3) (zaa (zav (fe_v 4) (zba T.i_BEHIND)) zac))))))))))
theorem kk_given (T:TX K mg) (C_Wood_node:Mth P w K mg base 4 "Wood" "node" zao) (C_parts:Cal P w K mg base 3 "parts" zch) (C_size:Cal P w K mg base 1 "size" zaw):∀n:Nat,Cal P w K mg base (5 + n) "given" (g_given n)
 | 0=>T.f_given.none0 (ps:=["wood", "make", "place", "thing"]) (fun _ _ _ _ _ _=>ls4 fun _ _ _ _=>rfl)
 | n + 1=>T.f_given.cal sc_given (fun _ _ _ _ _ _=>ls4 fun _ _ _ _=>rfl) (fun f cdv A outer s H E hr=>d_given T C_Wood_node C_parts C_size (kk_given T C_Wood_node C_parts C_size n) hr)
theorem sc_swapped:FnScope ["wood", "make", "place", "thing"] ["wood", "make", "place", "thing"] (zab s_swapped):=⟨rfl,rfl,rfl,by decide +kernel,rfl,by decide +kernel,by decide +kernel⟩
theorem d_swapped (T:TX K mg) (C_check_place:Cal P w K mg base 1 "check_place" zay) (C_given:Cal P w K mg base (5 + 40) "given" (g_given 40)) (C_size:Cal P w K mg base 1 "size" zaw) (hr:Room 45 (A.deeper (envOfC "swapped" (zab s_swapped) s.heap.objs.size f cdv))) :
   FSs (cxOf CX0 P w K mg base ["wood", "make", "place", "thing"] "swapped" (zab s_swapped) f cdv A outer s H E).nox (zaj s_swapped) c_swapped:=by
 have nd:=sc_swapped.nd
 exact (zad (zbw (zae C_check_place (hr.mono (by decide)) (zaa (fe_v 2) (zaa (zae C_size (hr.mono (by decide)) (zaa (fe_v 1) zac)) zac)))) (zag (zan (zae C_given (hr.mono (by decide)) (zaa (fe_v 0) (zaa (fe_v 1) (zaa (fe_v 2) (zaa (fe_v 3) zac))))))))
theorem kk_swapped (T:TX K mg) (C_check_place:Cal P w K mg base 1 "check_place" zay) (C_given:Cal P w K mg base (5 + 40) "given" (g_given 40)) (C_size:Cal P w K mg base 1 "size" zaw):Cal P w K mg base 46 "swapped" g_swapped:=(T.f_swapped.cal sc_swapped (fun _ _ _ _ _ _=>ls4 fun _ _ _ _=>rfl) (fun f cdv A outer s H E hr=>d_swapped T C_check_place C_given C_size hr))
theorem dr_swapped (T:TX K mg) (C_size:Cal P w K mg base 1 "size" zaw) (R_check_place:RCal P w K mg base 1 "check_place" zap) (hr:Room 45 (A.deeper (envOfC "swapped" (zab s_swapped) s.heap.objs.size f cdv))) :
   RSs (cxOf (CX1 P w) P w K mg base ["wood", "make", "place", "thing"] "swapped" (zab s_swapped) f cdv A outer s H E) (zaj s_swapped) rc_swapped:=by
 have nd:=sc_swapped.nd
 exact (zbs (zcq (zdt R_check_place (hr.mono (by decide)) (zaa (fe_v 2) (zaa (zae C_size (hr.mono (by decide)) (zaa (fe_v 1) zac)) zac)))))
theorem kr_swapped (T:TX K mg) (C_size:Cal P w K mg base 1 "size" zaw) (R_check_place:RCal P w K mg base 1 "check_place" zap):RCal P w K mg base 46 "swapped" zev:=T.f_swapped.rcal sc_swapped (fun _ _ _ _ _ _=>ls4 fun _ _ _ _=>rfl) (fun f cdv A outer s H E hr=>dr_swapped T C_size R_check_place hr)
theorem sc_Shelf_swap:FnScope ["self", "place", "thing"] ["self", "place", "thing"] (zab s_Shelf_swap):=⟨rfl,rfl,rfl,by decide +kernel,rfl,by decide +kernel,by decide +kernel⟩
theorem d_Shelf_swap (T:TX K mg) (C_Shelf_hold:Mth P w K mg base 1 "Shelf" "hold" zam) (C_swapped:Cal P w K mg base 46 "swapped" g_swapped) (hr:Room 46 (A.deeper (envOfC "Shelf.swap" (zab s_Shelf_swap) s.heap.objs.size f cdv))) :
   FSs (cxOf CX0 P w K mg base ["self", "place", "thing"] "Shelf.swap" (zab s_Shelf_swap) f cdv A outer s H E).nox (zaj s_Shelf_swap) c_Shelf_swap:=by
 have nd:=sc_Shelf_swap.nd
 exact (zag (zbw (zbd C_Shelf_hold (hr.mono (by decide)) (fe_v 0) (zaa (zae C_swapped (hr.mono (by decide)) (zaa (zcp T.w_Shelf_wood (fe_v 0)) (zaa (zcp T.w_Shelf_held (fe_v 0)) (zaa (fe_v 1) (zaa (fe_v 2) zac))))) (zaa (zcy (zaa zca (zaa (fe_v 1) zac))) zac)))))
theorem kk_Shelf_swap (T:TX K mg) (C_Shelf_hold:Mth P w K mg base 1 "Shelf" "hold" zam) (C_swapped:Cal P w K mg base 46 "swapped" g_swapped):Mth P w K mg base 47 "Shelf" "swap" zdc:=T.f_Shelf_swap.mth sc_Shelf_swap (fun _ _ _ _ _ _=>ls3 fun _ _ _=>rfl) (fun f cdv A outer s H E hr=>d_Shelf_swap T C_Shelf_hold C_swapped hr)
theorem dr_Shelf_swap (T:TX K mg) (C_Shelf_hold:Mth P w K mg base 1 "Shelf" "hold" zam) (R_swapped:RCal P w K mg base 46 "swapped" zev) (hr:Room 46 (A.deeper (envOfC "Shelf.swap" (zab s_Shelf_swap) s.heap.objs.size f cdv))) :
   RSs (cxOf (CX1 P w) P w K mg base ["self", "place", "thing"] "Shelf.swap" (zab s_Shelf_swap) f cdv A outer s H E) (zaj s_Shelf_swap) rc_Shelf_swap:=by
 have nd:=sc_Shelf_swap.nd
 exact (zbs (zcq (re_methA C_Shelf_hold (fe_v 0) (zdt R_swapped (hr.mono (by decide)) (zaa (zcp T.w_Shelf_wood (fe_v 0)) (zaa (zcp T.w_Shelf_held (fe_v 0)) (zaa (fe_v 1) (zaa (fe_v 2) zac))))))))
theorem kr_Shelf_swap (T:TX K mg) (C_Shelf_hold:Mth P w K mg base 1 "Shelf" "hold" zam) (R_swapped:RCal P w K mg base 46 "swapped" zev):RMth P w K mg base 47 "Shelf" "swap" zdx:=T.f_Shelf_swap.rmth sc_Shelf_swap (fun _ _ _ _ _ _=>ls3 fun _ _ _=>rfl) (fun f cdv A outer s H E hr=>dr_Shelf_swap T C_Shelf_hold R_swapped hr)
theorem sc_check_stretch:FnScope ["make", "start", "end"] ["make", "start", "end"] (zab s_check_stretch):=⟨rfl,rfl,rfl,by decide +kernel,rfl,by decide +kernel,by decide +kernel⟩
theorem d_check_stretch (T:TX K mg) (C_size:Cal P w K mg base 1 "size" zaw) (hr:Room 1 (A.deeper (envOfC "check_stretch" (zab s_check_stretch) s.heap.objs.size f cdv))) :
   FSs (cxOf CX0 P w K mg base ["make", "start", "end"] "check_stretch" (zab s_check_stretch) f cdv A outer s H E).nox (zaj s_check_stretch) c_check_stretch:=by
 have nd:=sc_check_stretch.nd
 exact (zag (zbu (fb_not (fb_leLeLe zai (fe_v 1) (fe_v 2) (zae C_size (hr.mono (by decide)) (zaa (fe_v 0) zac)))) (zag fs_never) zau))
theorem kk_check_stretch (T:TX K mg) (C_size:Cal P w K mg base 1 "size" zaw):Cal P w K mg base 2 "check_stretch" zdj:=(T.f_check_stretch.cal sc_check_stretch (fun _ _ _ _ _ _=>ls3 fun _ _ _=>rfl) (fun f cdv A outer s H E hr=>d_check_stretch T C_size hr))
theorem dr_check_stretch (T:TX K mg) (C_size:Cal P w K mg base 1 "size" zaw) (hr:Room 1 (A.deeper (envOfC "check_stretch" (zab s_check_stretch) s.heap.objs.size f cdv))) :
   RSs (cxOf (CX1 P w) P w K mg base ["make", "start", "end"] "check_stretch" (zab s_check_stretch) f cdv A outer s H E) (zaj s_check_stretch) zfn:=by
 have nd:=sc_check_stretch.nd
 exact (rss_if (fb_not (fb_leLeLe zai (fe_v 1) (fe_v 2) (zae C_size (hr.mono (by decide)) (zaa (fe_v 0) zac)))) (zbs (rs_raise T.x_NoPlace (zaa zca zac))) rss_none)
theorem kr_check_stretch (T:TX K mg) (C_size:Cal P w K mg base 1 "size" zaw):RCal P w K mg base 2 "check_stretch" zcl:=T.f_check_stretch.rcal sc_check_stretch (fun _ _ _ _ _ _=>ls3 fun _ _ _=>rfl) (fun f cdv A outer s H E hr=>dr_check_stretch T C_size hr)
theorem sc_cut_ahead:FnScope ["wood", "make", "place", "row", "middle", "halves"] ["wood", "make", "place"] (zab s_cut_ahead):=⟨rfl,rfl,rfl,by decide +kernel,rfl,by decide +kernel,by decide +kernel⟩
theorem d_cut_ahead (T:TX K mg) (C_joined:Cal P w K mg base (7 + 40) "joined" (zex 40)) (C_parts:Cal P w K mg base 3 "parts" zch) (C_size:Cal P w K mg base 1 "size" zaw) {self:G}{n:Nat} (hself:Cal P w K mg base (48 + n) "cut_ahead" self) (hr0:Room (48 + n) (A.deeper (envOfC "cut_ahead" (zab s_cut_ahead) s.heap.objs.size f cdv))) :
   FSs (cxOf CX0 P w K mg base ["wood", "make", "place", "row", "middle", "halves"] "cut_ahead" (zab s_cut_ahead) f cdv A outer s H E).nox (zaj s_cut_ahead) (c_cut_ahead self):=by
 have nd:=sc_cut_ahead.nd
 have hr:=hr0.mono (Nat.le_add_right 48 n)
 exact (zad (zbu (zfl hr (fe_v 2) zai) (zag (zan (zcy (zaa zcb (zaa (fe_v 1) zac))))) zau) (zad (zbu (zfl hr (fe_v 2) (zae C_size (hr.mono (by decide)) (zaa (fe_v 1) zac))) (zag (zan (zcy (zaa (fe_v 1) (zaa zcb zac))))) zau) (zad (zat 3 (zae C_parts (hr.mono (by decide)) (zaa (fe_v 0) (zaa (fe_v 1) zac))) nd) (zad (zat 4 (zae C_size (hr.mono (by decide)) (zaa (zav (fe_v 3) (zba T.i_AHEAD)) zac)) nd) (zad (zbu (fb_le (fe_v 2) (fe_v 4)) (zad (zat 5 (zae hself hr0 (zaa (fe_v 0) (zaa (zav (fe_v 3) (zba T.i_AHEAD)) (zaa (fe_v 2) zac)))) nd) (zag (zan (zcy (zaa (zav (fe_v 5) zai) (zaa (zae C_joined (hr.mono (by decide)) (zaa (fe_v 0) (zaa (zav (fe_v 5) zai) (zaa (zav (fe_v 3) (zba T.i_MIDDLE)) (zaa (zav (fe_v 3) (zba T.i_BEHIND)) zac))))) zac)))))) zau) (zad (zat 5 (zae hself hr0 (zaa (fe_v 0) (zaa (zav (fe_v 3) (zba T.i_BEHIND)) (zaa (zem (zem (fe_v 2) (fe_v 4)) zai) zac)))) nd) (zag (zan (zcy (zaa (zae C_joined (hr.mono (by decide)) (zaa (fe_v 0) (zaa (zav (fe_v 3) (zba T.i_AHEAD)) (zaa (zav (fe_v 3) (zba T.i_MIDDLE)) (zaa (zav (fe_v 5) zai) zac))))) (zaa (zav (fe_v 5) zai) zac)))))))))))
theorem kk_cut_ahead (T:TX K mg) (C_joined:Cal P w K mg base (7 + 40) "joined" (zex 40)) (C_parts:Cal P w K mg base 3 "parts" zch) (C_size:Cal P w K mg base 1 "size" zaw):∀n:Nat,Cal P w K mg base (48 + n) "cut_ahead" (zdf n)
 | 0=>T.f_cut_ahead.none0 (ps:=["wood", "make", "place"]) (fun _ _ _ _ _ _=>ls3 fun _ _ _=>rfl)
 | n + 1=>T.f_cut_ahead.cal sc_cut_ahead (fun _ _ _ _ _ _=>ls3 fun _ _ _=>rfl) (fun f cdv A outer s H E hr=>d_cut_ahead T C_joined C_parts C_size (kk_cut_ahead T C_joined C_parts C_size n) hr)
theorem sc_turned_part:FnScope ["wood", "make", "start", "end", "behind", "ahead", "begin"] ["wood", "make", "start", "end"] (zab s_turned_part):=⟨rfl,rfl,rfl,by decide +kernel,rfl,by decide +kernel,by decide +kernel⟩
theorem d_turned_part (T:TX K mg) (C_Wood_turned:Mth P w K mg base 2 "Wood" "turned" zbn) (C_check_stretch:Cal P w K mg base 2 "check_stretch" zdj) (C_cut_ahead:Cal P w K mg base (48 + 40) "cut_ahead" (zdf 40)) (C_laid_together:Cal P w K mg base (48 + 2 * 40 + 1) "laid_together" zcm) (hr:Room 129 (A.deeper (envOfC "turned_part" (zab s_turned_part) s.heap.objs.size f cdv))) :
   FSs (cxOf CX0 P w K mg base ["wood", "make", "start", "end", "behind", "ahead", "begin"] "turned_part" (zab s_turned_part) f cdv A outer s H E).nox (zaj s_turned_part) c_turned_part:=by
 have nd:=sc_turned_part.nd
 exact (zad (zbw (zae C_check_stretch (hr.mono (by decide)) (zaa (fe_v 1) (zaa (fe_v 2) (zaa (fe_v 3) zac))))) (zad (zat 4 (zae C_cut_ahead (hr.mono (by decide)) (zaa (fe_v 0) (zaa (fe_v 1) (zaa (fe_v 3) zac)))) nd) (zad (zat 5 (zae C_cut_ahead (hr.mono (by decide)) (zaa (fe_v 0) (zaa (zav (fe_v 4) zai) (zaa (fe_v 2) zac)))) nd) (zad (zat 6 (zae C_laid_together (hr.mono (by decide)) (zaa (fe_v 0) (zaa (zav (fe_v 5) zai) (zaa (zbd C_Wood_turned (hr.mono (by decide)) (fe_v 0) (zaa (zav (fe_v 5) zai) zac)) zac)))) nd) (zag (zan (zae C_laid_together (hr.mono (by decide)) (zaa (fe_v 0) (zaa (fe_v 6) (zaa (zav (fe_v 4) zai) zac))))))))))
theorem kk_turned_part (T:TX K mg) (C_Wood_turned:Mth P w K mg base 2 "Wood" "turned" zbn) (C_check_stretch:Cal P w K mg base 2 "check_stretch" zdj) (C_cut_ahead:Cal P w K mg base (48 + 40) "cut_ahead" (zdf 40)) (C_laid_together:Cal P w K mg base (48 + 2 * 40 + 1) "laid_together" zcm):Cal P w K mg base 130 "turned_part" zdm:=(T.f_turned_part.cal sc_turned_part (fun _ _ _ _ _ _=>ls4 fun _ _ _ _=>rfl) (fun f cdv A outer s H E hr=>d_turned_part T C_Wood_turned C_check_stretch C_cut_ahead C_laid_together hr))
theorem dr_turned_part (T:TX K mg) (R_check_stretch:RCal P w K mg base 2 "check_stretch" zcl) (hr:Room 129 (A.deeper (envOfC "turned_part" (zab s_turned_part) s.heap.objs.size f cdv))) :
   RSs (cxOf (CX1 P w) P w K mg base ["wood", "make", "start", "end", "behind", "ahead", "begin"] "turned_part" (zab s_turned_part) f cdv A outer s H E) (zaj s_turned_part) rc_turned_part:=by
 have nd:=sc_turned_part.nd
 exact (zbs (zcq (zdt R_check_stretch (hr.mono (by decide)) (zaa (fe_v 1) (zaa (fe_v 2) (zaa (fe_v 3) zac))))))
theorem kr_turned_part (T:TX K mg) (R_check_stretch:RCal P w K mg base 2 "check_stretch" zcl):RCal P w K mg base 130 "turned_part" zcs:=T.f_turned_part.rcal sc_turned_part (fun _ _ _ _ _ _=>ls4 fun _ _ _ _=>rfl) (fun f cdv A outer s H E hr=>dr_turned_part T R_check_stretch hr)
theorem sc_Shelf_turned:FnScope ["self", "start", "end"] ["self", "start", "end"] (zab s_Shelf_turned):=⟨rfl,rfl,rfl,by decide +kernel,rfl,by decide +kernel,by decide +kernel⟩
theorem d_Shelf_turned (T:TX K mg) (C_Shelf_hold:Mth P w K mg base 1 "Shelf" "hold" zam) (C_turned_part:Cal P w K mg base 130 "turned_part" zdm) (hr:Room 130 (A.deeper (envOfC "Shelf.turned" (zab s_Shelf_turned) s.heap.objs.size f cdv))) :
   FSs (cxOf CX0 P w K mg base ["self", "start", "end"] "Shelf.turned" (zab s_Shelf_turned) f cdv A outer s H E).nox (zaj s_Shelf_turned) c_Shelf_turned:=by
 have nd:=sc_Shelf_turned.nd
 exact (zag (zbw (zbd C_Shelf_hold (hr.mono (by decide)) (fe_v 0) (zaa (zae C_turned_part (hr.mono (by decide)) (zaa (zcp T.w_Shelf_wood (fe_v 0)) (zaa (zcp T.w_Shelf_held (fe_v 0)) (zaa (fe_v 1) (zaa (fe_v 2) zac))))) (zaa (zcy (zaa zca (zaa (fe_v 1) (zaa (fe_v 2) zac)))) zac)))))
theorem kk_Shelf_turned (T:TX K mg) (C_Shelf_hold:Mth P w K mg base 1 "Shelf" "hold" zam) (C_turned_part:Cal P w K mg base 130 "turned_part" zdm):Mth P w K mg base 131 "Shelf" "turned" zbv:=T.f_Shelf_turned.mth sc_Shelf_turned (fun _ _ _ _ _ _=>ls3 fun _ _ _=>rfl) (fun f cdv A outer s H E hr=>d_Shelf_turned T C_Shelf_hold C_turned_part hr)
theorem dr_Shelf_turned (T:TX K mg) (C_Shelf_hold:Mth P w K mg base 1 "Shelf" "hold" zam) (R_turned_part:RCal P w K mg base 130 "turned_part" zcs) (hr:Room 130 (A.deeper (envOfC "Shelf.turned" (zab s_Shelf_turned) s.heap.objs.size f cdv))) :
   RSs (cxOf (CX1 P w) P w K mg base ["self", "start", "end"] "Shelf.turned" (zab s_Shelf_turned) f cdv A outer s H E) (zaj s_Shelf_turned) rc_Shelf_turned:=by
 have nd:=sc_Shelf_turned.nd
 exact (zbs (zcq (re_methA C_Shelf_hold (fe_v 0) (zdt R_turned_part (hr.mono (by decide)) (zaa (zcp T.w_Shelf_wood (fe_v 0)) (zaa (zcp T.w_Shelf_held (fe_v 0)) (zaa (fe_v 1) (zaa (fe_v 2) zac))))))))
theorem kr_Shelf_turned (T:TX K mg) (C_Shelf_hold:Mth P w K mg base 1 "Shelf" "hold" zam) (R_turned_part:RCal P w K mg base 130 "turned_part" zcs):RMth P w K mg base 131 "Shelf" "turned" zcj:=T.f_Shelf_turned.rmth sc_Shelf_turned (fun _ _ _ _ _ _=>ls3 fun _ _ _=>rfl) (fun f cdv A outer s H E hr=>dr_Shelf_turned T C_Shelf_hold R_turned_part hr)
theorem sc__law_thing:FnScope ["_law_number", "_law_kind", "_law_great"] ["_law_number", "_law_kind"] (zab s__law_thing):=⟨rfl,rfl,rfl,by decide +kernel,rfl,by decide +kernel,by decide +kernel⟩
theorem d__law_thing (T:TX K mg) (hr:Room 0 (A.deeper (envOfC "_law_thing" (zab s__law_thing) s.heap.objs.size f cdv))) :
   FSs (cxOf CX0 P w K mg base ["_law_number", "_law_kind", "_law_great"] "_law_thing" (zab s__law_thing) f cdv A outer s H E).nox (zaj s__law_thing) c__law_thing:=by
 have nd:=sc__law_thing.nd
 exact (zad (zbu (zfl hr (fe_v 1) zai) (zag (zan (fe_mulS (zav zca (zbl (fe_v 0) zai)) (zbg zai (zbl (zen (fe_v 0) zai) zai))))) zau) (zad (zbu (zfl hr (fe_v 1) zai) (zad (zat 2 (zem (zbl (fe_mul (fe_v 0) (fe_pow zai zai)) (zbg (fe_mul zai (fe_pow zai zai)) zai)) (fe_pow zai zai)) nd) (zag (zan (zav (fe_lst (zaa (zem (zbl (fe_v 0) zai) zai) (zaa (fe_v 2) (zaa (fe_v 0) (zaa zai zac))))) (zbl (zen (fe_v 0) zai) zai))))) zau) (zad (zbu (zfl hr (fe_v 1) zai) (zag (zan (zcy (zaa (zbl (fe_v 0) zai) (zaa (zbl (zen (fe_v 0) zai) zai) zac))))) zau) (zag (zan (zbl (fe_v 0) zai))))))
theorem kk__law_thing (T:TX K mg):Cal P w K mg base 1 "_law_thing" zcu:=(T.f__law_thing.cal sc__law_thing (fun _ _ _ _ _ _=>ls2 fun _ _=>rfl) (fun f cdv A outer s H E hr=>d__law_thing T  hr))
theorem sc__law_deed:FnScope ["_law_shelf", "_law_plain", "_law_deeds", "_law_number", "_law_kind", "_law_way", "_law_place", "_law_thing_here", "_law_found", "_law_end"] ["_law_shelf", "_law_plain", "_law_deeds", "_law_number", "_law_kind"] (zab s__law_deed):=⟨rfl,rfl,rfl,by decide +kernel,rfl,by decide +kernel,by decide +kernel⟩
theorem d__law_deed (T:TX K mg) (C_Shelf_out:Mth P w K mg base 130 "Shelf" "out" zci) (C_Shelf_put:Mth P w K mg base 49 "Shelf" "put" zbt) (C_Shelf_swap:Mth P w K mg base 47 "Shelf" "swap" zdc) (C_Shelf_turned:Mth P w K mg base 131 "Shelf" "turned" zbv) (C__law_thing:Cal P w K mg base 1 "_law_thing" zcu) (hr:Room 131 (A.deeper (envOfC "_law_deed" (zab s__law_deed) s.heap.objs.size f cdv))) :
   FSs (cxOf CX0 P w K mg base ["_law_shelf", "_law_plain", "_law_deeds", "_law_number", "_law_kind", "_law_way", "_law_place", "_law_thing_here", "_law_found", "_law_end"] "_law_deed" (zab s__law_deed) f cdv A outer s H E).nox (zaj s__law_deed) c__law_deed:=by
 have nd:=sc__law_deed.nd
 exact (zad (zat 5 (zbl (fe_v 3) zai) nd) (zad (zat 3 (zen (fe_v 3) zai) nd) (zad (zat 6 (zbl (fe_v 3) (zbg (fe_len T.b_len (zaa (fe_v 1) zac)) zai)) nd) (zad (zat 7 (zae C__law_thing (hr.mono (by decide)) (zaa (zen (fe_v 3) zai) (zaa (fe_v 4) zac))) nd) (zad (zbu (fb_w (fw_and (zfl hr (fe_v 5) zai) (fw_and1 (fb_lt (fe_v 6) (fe_len T.b_len (zaa (fe_v 1) zac)))))) (zad (zat 8 (zbd C_Shelf_out (hr.mono (by decide)) (fe_v 0) (zaa (fe_v 6) zac)) nd) (zad (fs_append (fe_v 2) (zcy (zaa zca (zaa (fe_v 6) zac)))) (zag (zan (fe_eq hr (fe_v 8) (fe_lm mt_popAt PySem.F.slot_list_pop PySem.F.type_list_pop popAt_ok (fe_v 1) (zaa (fe_v 6) zac))))))) zau) (zad (zbu (fb_w (fw_and (zfl hr (fe_v 5) zai) (fw_and1 (fb_lt (fe_v 6) (fe_len T.b_len (zaa (fe_v 1) zac)))))) (zad (fs_item (fe_v 1) (fe_v 6) (fe_v 7)) (zad (fs_append (fe_v 2) (zcy (zaa zca (zaa (fe_v 6) zac)))) (zag (zan (fe_is (zbd C_Shelf_swap (hr.mono (by decide)) (fe_v 0) (zaa (fe_v 6) (zaa (fe_v 7) zac))) zcb))))) zau) (zad (zbu (zfl hr (fe_v 5) zai) (zad (zat 9 (zbg (fe_v 6) (zbl (zen (fe_v 3) zai) (zem (zbg (fe_len T.b_len (zaa (fe_v 1) zac)) zai) (fe_v 6)))) nd) (zad (fs_slSet (fe_v 1) (fp_some (fe_v 6)) (fp_some (fe_v 9)) (fe_rev (fe_sliceM (fe_v 1) (fp_some (fe_v 6)) (fp_some (fe_v 9))))) (zad (fs_append (fe_v 2) (zcy (zaa zca (zaa (fe_v 6) (zaa (fe_v 9) zac))))) (zag (zan (fe_is (zbd C_Shelf_turned (hr.mono (by decide)) (fe_v 0) (zaa (fe_v 6) (zaa (fe_v 9) zac))) zcb)))))) zau) (zad (zbw (fe_lm mt_insert PySem.F.slot_list_insert PySem.F.type_list_insert insert_ok (fe_v 1) (zaa (fe_v 6) (zaa (fe_v 7) zac)))) (zad (fs_append (fe_v 2) (zcy (zaa zca (zaa (fe_v 6) zac)))) (zag (zan (fe_is (zbd C_Shelf_put (hr.mono (by decide)) (fe_v 0) (zaa (fe_v 6) (zaa (fe_v 7) zac))) zcb))))))))))))
theorem kk__law_deed (T:TX K mg) (C_Shelf_out:Mth P w K mg base 130 "Shelf" "out" zci) (C_Shelf_put:Mth P w K mg base 49 "Shelf" "put" zbt) (C_Shelf_swap:Mth P w K mg base 47 "Shelf" "swap" zdc) (C_Shelf_turned:Mth P w K mg base 131 "Shelf" "turned" zbv) (C__law_thing:Cal P w K mg base 1 "_law_thing" zcu):Cal P w K mg base 132 "_law_deed" zfc:=(T.f__law_deed.cal sc__law_deed (fun _ _ _ _ _ _=>ls5 fun _ _ _ _ _=>rfl) (fun f cdv A outer s H E hr=>d__law_deed T C_Shelf_out C_Shelf_put C_Shelf_swap C_Shelf_turned C__law_thing hr))
theorem sc__law_drawn:FnScope ["_law_cell_here", "_law_amount_here", "_law_number", "_law_found", "_law_k"] ["_law_cell_here", "_law_amount_here"] (zab s__law_drawn):=⟨rfl,rfl,rfl,by decide +kernel,rfl,by decide +kernel,by decide +kernel⟩
theorem d__law_drawn (T:TX K mg) (hr:Room 0 (A.deeper (envOfC "_law_drawn" (zab s__law_drawn) s.heap.objs.size f cdv))) :
   FSs (cxOf CX0 P w K mg base ["_law_cell_here", "_law_amount_here", "_law_number", "_law_found", "_law_k"] "_law_drawn" (zab s__law_drawn) f cdv A outer s H E).nox (zaj s__law_drawn) c__law_drawn:=by
 have nd:=sc__law_drawn.nd
 exact (zad (zat 2 (zbl (fe_v 0) zai) nd) (zad (zat 3 (fe_newL zac) nd) (zad (fs_forR 4 nd T.b_range (zbg (fe_v 1) zai) (zad (zat 2 (zbl (zbg (zbg (fe_mul (fe_v 2) (zbg (zbg (fe_v 2) (fe_mul zai (fe_v 4))) zai)) (fe_mul zai (fe_v 4))) zai) zai) nd) (zag (fs_append (fe_v 3) (zen (fe_v 2) zai)))) PassesOwn.never) (zag (zan (fe_sliceM (fe_v 3) (fp_some zai) fp_none))))))
theorem kk__law_drawn (T:TX K mg):Cal P w K mg base 1 "_law_drawn" zec:=(T.f__law_drawn.cal sc__law_drawn (fun _ _ _ _ _ _=>ls2 fun _ _=>rfl) (fun f cdv A outer s H E hr=>d__law_drawn T  hr)).frz
theorem sc_Shelf_make:FnScope ["self"] ["self"] (zab s_Shelf_make):=⟨rfl,rfl,rfl,by decide +kernel,rfl,by decide +kernel,by decide +kernel⟩
theorem d_Shelf_make (T:TX K mg) (hr:Room 0 (A.deeper (envOfC "Shelf.make" (zab s_Shelf_make) s.heap.objs.size f cdv))) :
   FSs (cxOf CX0 P w K mg base ["self"] "Shelf.make" (zab s_Shelf_make) f cdv A outer s H E).nox (zaj s_Shelf_make) c_Shelf_make:=by
 have nd:=sc_Shelf_make.nd
 exact (zag (zan (zcp T.w_Shelf_held (fe_v 0))))
theorem kk_Shelf_make (T:TX K mg):Mth P w K mg base 1 "Shelf" "make" zdd:=T.f_Shelf_make.mth sc_Shelf_make (fun _ _ _ _ _ _=>ls1 fun _=>rfl) (fun f cdv A outer s H E hr=>d_Shelf_make T  hr)
theorem sc_laid:FnScope ["wood", "one", "other"] ["wood", "one", "other"] (zab s_laid):=⟨rfl,rfl,rfl,by decide +kernel,rfl,by decide +kernel,by decide +kernel⟩
theorem d_laid (T:TX K mg) (C_check_room:Cal P w K mg base 1 "check_room" zbk) (C_laid_together:Cal P w K mg base (48 + 2 * 40 + 1) "laid_together" zcm) (C_size:Cal P w K mg base 1 "size" zaw) (hr:Room 129 (A.deeper (envOfC "laid" (zab s_laid) s.heap.objs.size f cdv))) :
   FSs (cxOf CX0 P w K mg base ["wood", "one", "other"] "laid" (zab s_laid) f cdv A outer s H E).nox (zaj s_laid) c_laid:=by
 have nd:=sc_laid.nd
 exact (zad (zbw (zae C_check_room (hr.mono (by decide)) (zaa (zbg (zae C_size (hr.mono (by decide)) (zaa (fe_v 1) zac)) (zae C_size (hr.mono (by decide)) (zaa (fe_v 2) zac))) zac))) (zag (zan (zae C_laid_together (hr.mono (by decide)) (zaa (fe_v 0) (zaa (fe_v 1) (zaa (fe_v 2) zac)))))))
theorem kk_laid (T:TX K mg) (C_check_room:Cal P w K mg base 1 "check_room" zbk) (C_laid_together:Cal P w K mg base (48 + 2 * 40 + 1) "laid_together" zcm) (C_size:Cal P w K mg base 1 "size" zaw):Cal P w K mg base 130 "laid" g_laid:=(T.f_laid.cal sc_laid (fun _ _ _ _ _ _=>ls3 fun _ _ _=>rfl) (fun f cdv A outer s H E hr=>d_laid T C_check_room C_laid_together C_size hr))
theorem dr_laid (T:TX K mg) (C_size:Cal P w K mg base 1 "size" zaw) (R_check_room:RCal P w K mg base 1 "check_room" zbf) (hr:Room 129 (A.deeper (envOfC "laid" (zab s_laid) s.heap.objs.size f cdv))) :
   RSs (cxOf (CX1 P w) P w K mg base ["wood", "one", "other"] "laid" (zab s_laid) f cdv A outer s H E) (zaj s_laid) rc_laid:=by
 have nd:=sc_laid.nd
 exact (zbs (zcq (zdt R_check_room (hr.mono (by decide)) (zaa (zbg (zae C_size (hr.mono (by decide)) (zaa (fe_v 1) zac)) (zae C_size (hr.mono (by decide)) (zaa (fe_v 2) zac))) zac))))
theorem kr_laid (T:TX K mg) (C_size:Cal P w K mg base 1 "size" zaw) (R_check_room:RCal P w K mg base 1 "check_room" zbf):RCal P w K mg base 130 "laid" r_laid:=T.f_laid.rcal sc_laid (fun _ _ _ _ _ _=>ls3 fun _ _ _=>rfl) (fun f cdv A outer s H E hr=>dr_laid T C_size R_check_room hr)
theorem sc_Shelf_laid:FnScope ["self", "other", "behind"] ["self", "other"] (zab s_Shelf_laid):=⟨rfl,rfl,rfl,by decide +kernel,rfl,by decide +kernel,by decide +kernel⟩
theorem d_Shelf_laid (T:TX K mg) (C_Shelf_hold:Mth P w K mg base 1 "Shelf" "hold" zam) (C_Shelf_make:Mth P w K mg base 1 "Shelf" "make" zdd) (C_laid_rows:Cal P w K mg base 130 "laid_rows" g_laid) (C_size:Cal P w K mg base 1 "size" zaw) (hr:Room 130 (A.deeper (envOfC "Shelf.laid" (zab s_Shelf_laid) s.heap.objs.size f cdv))) :
   FSs (cxOf CX0 P w K mg base ["self", "other", "behind"] "Shelf.laid" (zab s_Shelf_laid) f cdv A outer s H E).nox (zaj s_Shelf_laid) c_Shelf_laid:=by
 have nd:=sc_Shelf_laid.nd
 exact (zad (zat 2 (zef C_Shelf_make (hr.mono (by decide)) (fe_v 1)) nd) (zag (zbw (zbd C_Shelf_hold (hr.mono (by decide)) (fe_v 0) (zaa (zae C_laid_rows (hr.mono (by decide)) (zaa (zcp T.w_Shelf_wood (fe_v 0)) (zaa (zcp T.w_Shelf_held (fe_v 0)) (zaa (fe_v 2) zac)))) (zaa (zcy (zaa zca (zaa (zae C_size (hr.mono (by decide)) (zaa (fe_v 2) zac)) zac))) zac))))))
theorem kk_Shelf_laid (T:TX K mg) (C_Shelf_hold:Mth P w K mg base 1 "Shelf" "hold" zam) (C_Shelf_make:Mth P w K mg base 1 "Shelf" "make" zdd) (C_laid_rows:Cal P w K mg base 130 "laid_rows" g_laid) (C_size:Cal P w K mg base 1 "size" zaw):Mth P w K mg base 131 "Shelf" "laid" zde:=T.f_Shelf_laid.mth sc_Shelf_laid (fun _ _ _ _ _ _=>ls2 fun _ _=>rfl) (fun f cdv A outer s H E hr=>d_Shelf_laid T C_Shelf_hold C_Shelf_make C_laid_rows C_size hr)
theorem dr_Shelf_laid (T:TX K mg) (C_Shelf_hold:Mth P w K mg base 1 "Shelf" "hold" zam) (C_Shelf_make:Mth P w K mg base 1 "Shelf" "make" zdd) (R_laid_rows:RCal P w K mg base 130 "laid_rows" r_laid) (hr:Room 130 (A.deeper (envOfC "Shelf.laid" (zab s_Shelf_laid) s.heap.objs.size f cdv))) :
   RSs (cxOf (CX1 P w) P w K mg base ["self", "other", "behind"] "Shelf.laid" (zab s_Shelf_laid) f cdv A outer s H E) (zaj s_Shelf_laid) rc_Shelf_laid:=by
 have nd:=sc_Shelf_laid.nd
 exact (zfq (zat 2 (zef C_Shelf_make (hr.mono (by decide)) (fe_v 1)) nd) (zbs (zcq (re_methA C_Shelf_hold (fe_v 0) (zdt R_laid_rows (hr.mono (by decide)) (zaa (zcp T.w_Shelf_wood (fe_v 0)) (zaa (zcp T.w_Shelf_held (fe_v 0)) (zaa (fe_v 2) zac))))))))
theorem kr_Shelf_laid (T:TX K mg) (C_Shelf_hold:Mth P w K mg base 1 "Shelf" "hold" zam) (C_Shelf_make:Mth P w K mg base 1 "Shelf" "make" zdd) (R_laid_rows:RCal P w K mg base 130 "laid_rows" r_laid):RMth P w K mg base 131 "Shelf" "laid" zdy:=T.f_Shelf_laid.rmth sc_Shelf_laid (fun _ _ _ _ _ _=>ls2 fun _ _=>rfl) (fun f cdv A outer s H E hr=>dr_Shelf_laid T C_Shelf_hold C_Shelf_make R_laid_rows hr)
theorem sc__law_kind_of:FnScope ["_law_caught", "_law_kinds"] ["_law_caught"] (zab s__law_kind_of):=⟨rfl,rfl,rfl,by decide +kernel,rfl,by decide +kernel,by decide +kernel⟩
theorem d__law_kind_of (T:TX K mg) (hr:Room 0 (A.deeper (envOfC "_law_kind_of" (zab s__law_kind_of) s.heap.objs.size f cdv))) :
   FSs (cxOf CX0 P w K mg base ["_law_caught", "_law_kinds"] "_law_kind_of" (zab s__law_kind_of) f cdv A outer s H E).nox (zaj s__law_kind_of) c__law_kind_of:=by
 have nd:=sc__law_kind_of.nd
 exact (zad (zbu (fb_val (fe_isX T.up T.b_isinstance (zaa (fe_v 0) (zaa (zcy (zaa (fe_gf T.v_Changed) (zaa (fe_gf T.v_NoBalance) (zaa (fe_gf T.v_NoMore) (zaa (fe_gf T.v_NoName) (zaa (fe_gf T.v_NoNumber) (zaa (fe_gf T.v_NoRow) (zaa (fe_gf T.v_NoSum) (zaa (fe_gf T.v_NoThing) (zaa (fe_gf T.v_NoWay) zac)))))))))) zac)))) (zag (zan zca)) zau) (zad (zat 1 (fe_lst (zaa (fe_isX T.up T.b_isinstance (zaa (fe_v 0) (zaa (fe_gf T.v_NoPlace) zac))) (zaa (fe_isX T.up T.b_isinstance (zaa (fe_v 0) (zaa (fe_gf T.v_TooMany) zac))) zac))) nd) (zad (zbu (fb_w (fw_or (fb_ne hr (fe_sumB T.b_sum (zaa (fe_v 1) zac)) zai) (fw_or1 (fb_not (fb_val (fe_isX T.up T.b_isinstance (zaa (fe_v 0) (zaa (fe_bty "ValueError" T.b_ValueError F.boot_ValueError) zac)))))))) (zag (zan zca)) zau) (zag (zan (zav (fe_lst (zaa zca (zaa zca zac))) (fe_intOf T.b_int (zaa (zav (fe_v 1) zai) zac))))))))
theorem kk__law_kind_of (T:TX K mg):Cal P w K mg base 1 "_law_kind_of" zbq:=(T.f__law_kind_of.cal sc__law_kind_of (fun _ _ _ _ _ _=>ls1 fun _=>rfl) (fun f cdv A outer s H E hr=>d__law_kind_of T  hr))
theorem sc__law_more:FnScope ["_law_shelf", "_law_other", "_law_place", "_law_caught", "e"] ["_law_shelf", "_law_other", "_law_place"] (zab s__law_more):=⟨rfl,rfl,rfl,by decide +kernel,rfl,by decide +kernel,by decide +kernel⟩
theorem d__law_more (T:TX K mg) (C_Shelf_laid:Mth P w K mg base 131 "Shelf" "laid" zde) (C_Shelf_put:Mth P w K mg base 49 "Shelf" "put" zbt) (C__law_kind_of:Cal P w K mg base 1 "_law_kind_of" zbq) (R_Shelf_laid:RMth P w K mg base 131 "Shelf" "laid" zdy) (R_Shelf_put:RMth P w K mg base 49 "Shelf" "put" zcv) (hr:Room 131 (A.deeper (envOfC "_law_more" (zab s__law_more) s.heap.objs.size f cdv))) :
   FSs (cxOf CX0 P w K mg base ["_law_shelf", "_law_other", "_law_place", "_law_caught", "e"] "_law_more" (zab s__law_more) f cdv A outer s H E).nox (zaj s__law_more) c__law_more:=by
 have nd:=sc__law_more.nd
 exact (zad (zat 3 zcb nd) (zad (fs_try 4 (fun _=>(zag (zbu (fb_is (fe_v 1) zcb) (zag (zbw (zbd C_Shelf_put (hr.mono (by decide)) (fe_v 0) (zaa (fe_v 2) (zaa zca zac))))) (zag (zbw (zbd C_Shelf_laid (hr.mono (by decide)) (fe_v 0) (zaa (fe_v 1) zac))))))) (fun _=>(rts_here (rs_if (fb_is (fe_v 1) zcb) (rts_here (zcq (re_meth R_Shelf_put (hr.mono (by decide)) (fe_v 0) (zaa (fe_v 2) (zaa zca zac))))) (rts_here (zcq (re_meth R_Shelf_laid (hr.mono (by decide)) (fe_v 0) (zaa (fe_v 1) zac))))))) (fun _ _=>(zag (zat 3 (fe_v 4) nd))) nd T.up.cat) (zag (zan (zae C__law_kind_of (hr.mono (by decide)) (zaa (fe_v 3) zac))))))
theorem kk__law_more (T:TX K mg) (C_Shelf_laid:Mth P w K mg base 131 "Shelf" "laid" zde) (C_Shelf_put:Mth P w K mg base 49 "Shelf" "put" zbt) (C__law_kind_of:Cal P w K mg base 1 "_law_kind_of" zbq) (R_Shelf_laid:RMth P w K mg base 131 "Shelf" "laid" zdy) (R_Shelf_put:RMth P w K mg base 49 "Shelf" "put" zcv):Cal P w K mg base 132 "_law_more" zdg:=(T.f__law_more.cal sc__law_more (fun _ _ _ _ _ _=>ls3 fun _ _ _=>rfl) (fun f cdv A outer s H E hr=>d__law_more T C_Shelf_laid C_Shelf_put C__law_kind_of R_Shelf_laid R_Shelf_put hr)).frz
theorem sc__law_not_made:FnScope ["_law_wood", "_law_caught", "e"] ["_law_wood"] (zab s__law_not_made):=⟨rfl,rfl,rfl,by decide +kernel,rfl,by decide +kernel,by decide +kernel⟩
theorem d__law_not_made (T:TX K mg) (C_Shelf___init__:Mak P w K mg base 47 "Shelf" zas) (C__law_kind_of:Cal P w K mg base 1 "_law_kind_of" zbq) (R_Shelf___init__:RMak P w K mg base 47 "Shelf" zcf) (hr:Room 48 (A.deeper (envOfC "_law_not_made" (zab s__law_not_made) s.heap.objs.size f cdv))) :
   FSs (cxOf CX0 P w K mg base ["_law_wood", "_law_caught", "e"] "_law_not_made" (zab s__law_not_made) f cdv A outer s H E).nox (zaj s__law_not_made) c__law_not_made:=by
 have nd:=sc__law_not_made.nd
 exact (zad (zat 1 zcb nd) (zad (fs_try 2 (fun _=>(zag (zbw (fe_make C_Shelf___init__ (hr.mono (by decide)) (zaa (fe_v 0) (zaa (fe_repL (zaa zca zac) zai) zac)))))) (fun _=>(rts_here (zcq (re_make R_Shelf___init__ (hr.mono (by decide)) (zaa (fe_v 0) (zaa (fe_repL (zaa zca zac) zai) zac)))))) (fun _ _=>(zag (zat 1 (fe_v 2) nd))) nd T.up.cat) (zag (zan (fe_eq hr (zae C__law_kind_of (hr.mono (by decide)) (zaa (fe_v 1) zac)) zca)))))
theorem kk__law_not_made (T:TX K mg) (C_Shelf___init__:Mak P w K mg base 47 "Shelf" zas) (C__law_kind_of:Cal P w K mg base 1 "_law_kind_of" zbq) (R_Shelf___init__:RMak P w K mg base 47 "Shelf" zcf):Cal P w K mg base 49 "_law_not_made" zeb:=(T.f__law_not_made.cal sc__law_not_made (fun _ _ _ _ _ _=>ls1 fun _=>rfl) (fun f cdv A outer s H E hr=>d__law_not_made T C_Shelf___init__ C__law_kind_of R_Shelf___init__ hr)).frz
theorem sc__law_full:FnScope ["_law_shelf", "_law_wood", "_law_cell_here", "_law_many", "_law_deeds", "_law_rest", "_law_last", "_law_done"] ["_law_shelf", "_law_wood", "_law_cell_here"] (zab s__law_full):=⟨rfl,rfl,rfl,by decide +kernel,rfl,by decide +kernel,by decide +kernel⟩
theorem d__law_full (T:TX K mg) (C_Shelf___init__:Mak P w K mg base 47 "Shelf" zas) (C_Shelf_deeds:Mth P w K mg base 1 "Shelf" "deeds" zbx) (C_Shelf_laid:Mth P w K mg base 131 "Shelf" "laid" zde) (C_Shelf_out:Mth P w K mg base 130 "Shelf" "out" zci) (C_Shelf_put:Mth P w K mg base 49 "Shelf" "put" zbt) (C_Shelf_things:Mth P w K mg base 44 "Shelf" "things" zbj) (C__law_more:Cal P w K mg base 132 "_law_more" zdg) (C__law_not_made:Cal P w K mg base 49 "_law_not_made" zeb) (hr:Room 132 (A.deeper (envOfC "_law_full" (zab s__law_full) s.heap.objs.size f cdv))) :
   FSs (cxOf CX0 P w K mg base ["_law_shelf", "_law_wood", "_law_cell_here", "_law_many", "_law_deeds", "_law_rest", "_law_last", "_law_done"] "_law_full" (zab s__law_full) f cdv A outer s H E).nox (zaj s__law_full) c__law_full:=by
 have nd:=sc__law_full.nd
 exact (zad (zat 3 (fe_len T.b_len (zaa (zef C_Shelf_things (hr.mono (by decide)) (fe_v 0)) zac)) nd) (zad (zbu (fb_not (fb_val (zae C__law_not_made (hr.mono (by decide)) (zaa (fe_v 1) zac)))) (zag (zan fe_bl)) zau) (zad (zat 4 (zef C_Shelf_deeds (hr.mono (by decide)) (fe_v 0)) nd) (zad (zat 5 (fe_make C_Shelf___init__ (hr.mono (by decide)) (zaa (fe_v 1) (zaa (fe_repL (zaa zca zac) (zem zai (fe_v 3))) zac))) nd) (zad (zbu (fb_w (fw_or (fb_ne hr (zae C__law_more (hr.mono (by decide)) (zaa (fe_v 0) (zaa (fe_v 0) (zaa zai zac)))) zca) (fw_or1 (fb_ne hr (zae C__law_more (hr.mono (by decide)) (zaa (fe_v 0) (zaa (fe_make C_Shelf___init__ (hr.mono (by decide)) (zaa (fe_v 1) (zaa (fe_repL (zaa zca zac) (zem zai (fe_v 3))) zac))) (zaa zai zac)))) zca)))) (zag (zan fe_bl)) zau) (zad (zbu (fb_w (fw_or (fb_neO hr (zef C_Shelf_deeds (hr.mono (by decide)) (fe_v 0)) (fe_v 4)) (fw_or (fb_ne hr (fe_len T.b_len (zaa (zef C_Shelf_things (hr.mono (by decide)) (fe_v 0)) zac)) (fe_v 3)) (fw_or1 (fb_isNot (zbd C_Shelf_laid (hr.mono (by decide)) (fe_v 0) (zaa (fe_v 5) zac)) zcb))))) (zag (zan fe_bl)) zau) (zad (zbu (fb_w (fw_or (fb_ne hr (zae C__law_more (hr.mono (by decide)) (zaa (fe_v 0) (zaa zcb (zaa (zbl (fe_v 2) zai) zac)))) zca) (fw_or1 (fb_ne hr (zae C__law_more (hr.mono (by decide)) (zaa (fe_v 0) (zaa zcb (zaa (zbg zai (zbl (fe_v 2) zai)) zac)))) zca)))) (zag (zan fe_bl)) zau) (zad (zat 6 (zav (zef C_Shelf_things (hr.mono (by decide)) (fe_v 0)) (fe_neg zai)) nd) (zad (zbu (fb_w (fw_or (fb_ne hr (zbd C_Shelf_out (hr.mono (by decide)) (fe_v 0) (zaa zai zac)) (fe_v 6)) (fw_or1 (fb_isNot (zbd C_Shelf_put (hr.mono (by decide)) (fe_v 0) (zaa (zbl (fe_v 2) zai) (zaa zca zac))) zcb)))) (zag (zan fe_bl)) zau) (zad (zat 7 (fe_lst (zaa (zcy (zaa zca (zaa (zem zai (fe_v 3)) zac))) (zaa (zcy (zaa zca (zaa zai zac))) (zaa (zcy (zaa zca (zaa (zbl (fe_v 2) zai) zac))) zac)))) nd) (zag (zan (fe_and (fe_eq hr (zef C_Shelf_deeds (hr.mono (by decide)) (fe_v 0)) (fe_addL (fe_v 4) (fe_v 7))) (fe_one (fe_eq hr (fe_len T.b_len (zaa (zef C_Shelf_things (hr.mono (by decide)) (fe_v 0)) zac)) zai)))))))))))))))
theorem kk__law_full (T:TX K mg) (C_Shelf___init__:Mak P w K mg base 47 "Shelf" zas) (C_Shelf_deeds:Mth P w K mg base 1 "Shelf" "deeds" zbx) (C_Shelf_laid:Mth P w K mg base 131 "Shelf" "laid" zde) (C_Shelf_out:Mth P w K mg base 130 "Shelf" "out" zci) (C_Shelf_put:Mth P w K mg base 49 "Shelf" "put" zbt) (C_Shelf_things:Mth P w K mg base 44 "Shelf" "things" zbj) (C__law_more:Cal P w K mg base 132 "_law_more" zdg) (C__law_not_made:Cal P w K mg base 49 "_law_not_made" zeb):Cal P w K mg base 133 "_law_full" g__law_full:=(T.f__law_full.cal sc__law_full (fun _ _ _ _ _ _=>ls3 fun _ _ _=>rfl) (fun f cdv A outer s H E hr=>d__law_full T C_Shelf___init__ C_Shelf_deeds C_Shelf_laid C_Shelf_out C_Shelf_put C_Shelf_things C__law_more C__law_not_made hr))
theorem sc_cut:FnScope ["wood", "make", "place"] ["wood", "make", "place"] (zab s_cut):=⟨rfl,rfl,rfl,by decide +kernel,rfl,by decide +kernel,by decide +kernel⟩
theorem d_cut (T:TX K mg) (C_check_place:Cal P w K mg base 1 "check_place" zay) (C_cut_ahead:Cal P w K mg base (48 + 40) "cut_ahead" (zdf 40)) (C_size:Cal P w K mg base 1 "size" zaw) (hr:Room 88 (A.deeper (envOfC "cut" (zab s_cut) s.heap.objs.size f cdv))) :
   FSs (cxOf CX0 P w K mg base ["wood", "make", "place"] "cut" (zab s_cut) f cdv A outer s H E).nox (zaj s_cut) c_cut:=by
 have nd:=sc_cut.nd
 exact (zad (zbw (zae C_check_place (hr.mono (by decide)) (zaa (fe_v 2) (zaa (zbg (zae C_size (hr.mono (by decide)) (zaa (fe_v 1) zac)) zai) zac)))) (zag (zan (zae C_cut_ahead (hr.mono (by decide)) (zaa (fe_v 0) (zaa (fe_v 1) (zaa (fe_v 2) zac)))))))
theorem kk_cut (T:TX K mg) (C_check_place:Cal P w K mg base 1 "check_place" zay) (C_cut_ahead:Cal P w K mg base (48 + 40) "cut_ahead" (zdf 40)) (C_size:Cal P w K mg base 1 "size" zaw):Cal P w K mg base 89 "cut" g_cut:=(T.f_cut.cal sc_cut (fun _ _ _ _ _ _=>ls3 fun _ _ _=>rfl) (fun f cdv A outer s H E hr=>d_cut T C_check_place C_cut_ahead C_size hr))
theorem dr_cut (T:TX K mg) (C_size:Cal P w K mg base 1 "size" zaw) (R_check_place:RCal P w K mg base 1 "check_place" zap) (hr:Room 88 (A.deeper (envOfC "cut" (zab s_cut) s.heap.objs.size f cdv))) :
   RSs (cxOf (CX1 P w) P w K mg base ["wood", "make", "place"] "cut" (zab s_cut) f cdv A outer s H E) (zaj s_cut) rc_cut:=by
 have nd:=sc_cut.nd
 exact (zbs (zcq (zdt R_check_place (hr.mono (by decide)) (zaa (fe_v 2) (zaa (zbg (zae C_size (hr.mono (by decide)) (zaa (fe_v 1) zac)) zai) zac)))))
theorem kr_cut (T:TX K mg) (C_size:Cal P w K mg base 1 "size" zaw) (R_check_place:RCal P w K mg base 1 "check_place" zap):RCal P w K mg base 89 "cut" r_cut:=T.f_cut.rcal sc_cut (fun _ _ _ _ _ _=>ls3 fun _ _ _=>rfl) (fun f cdv A outer s H E hr=>dr_cut T C_size R_check_place hr)
theorem sc_Shelf_cut:FnScope ["self", "place", "halves", "others"] ["self", "place"] (zab s_Shelf_cut):=⟨rfl,rfl,rfl,by decide +kernel,rfl,by decide +kernel,by decide +kernel⟩
theorem d_Shelf_cut (T:TX K mg) (C_Shelf___init___d:Mak P w K mg base 47 "Shelf" (dflt 1 zas)) (C_Shelf_hold:Mth P w K mg base 1 "Shelf" "hold" zam) (C_cut_rows:Cal P w K mg base 89 "cut_rows" g_cut) (hr:Room 89 (A.deeper (envOfC "Shelf.cut" (zab s_Shelf_cut) s.heap.objs.size f cdv))) :
   FSs (cxOf CX0 P w K mg base ["self", "place", "halves", "others"] "Shelf.cut" (zab s_Shelf_cut) f cdv A outer s H E).nox (zaj s_Shelf_cut) c_Shelf_cut:=by
 have nd:=sc_Shelf_cut.nd
 exact (zad (zat 2 (zae C_cut_rows (hr.mono (by decide)) (zaa (zcp T.w_Shelf_wood (fe_v 0)) (zaa (zcp T.w_Shelf_held (fe_v 0)) (zaa (fe_v 1) zac)))) nd) (zad (zat 3 (fe_make C_Shelf___init___d (hr.mono (by decide)) (zaa (zcp T.w_Shelf_wood (fe_v 0)) zac)) nd) (zad (fs_fld T.w_Shelf_held (fe_v 3) (zav (fe_v 2) zai)) (zad (zbw (zbd C_Shelf_hold (hr.mono (by decide)) (fe_v 0) (zaa (zav (fe_v 2) zai) (zaa (zcy (zaa zca (zaa (fe_v 1) zac))) zac)))) (zag (zan (fe_v 3)))))))
theorem kk_Shelf_cut (T:TX K mg) (C_Shelf___init___d:Mak P w K mg base 47 "Shelf" (dflt 1 zas)) (C_Shelf_hold:Mth P w K mg base 1 "Shelf" "hold" zam) (C_cut_rows:Cal P w K mg base 89 "cut_rows" g_cut):Mth P w K mg base 90 "Shelf" "cut" g_Shelf_cut:=T.f_Shelf_cut.mth sc_Shelf_cut (fun _ _ _ _ _ _=>ls2 fun _ _=>rfl) (fun f cdv A outer s H E hr=>d_Shelf_cut T C_Shelf___init___d C_Shelf_hold C_cut_rows hr)
theorem dr_Shelf_cut (T:TX K mg) (R_cut_rows:RCal P w K mg base 89 "cut_rows" r_cut) (hr:Room 89 (A.deeper (envOfC "Shelf.cut" (zab s_Shelf_cut) s.heap.objs.size f cdv))) :
   RSs (cxOf (CX1 P w) P w K mg base ["self", "place", "halves", "others"] "Shelf.cut" (zab s_Shelf_cut) f cdv A outer s H E) (zaj s_Shelf_cut) rc_Shelf_cut:=by
 have nd:=sc_Shelf_cut.nd
 exact (zbs (rs_set (zdt R_cut_rows (hr.mono (by decide)) (zaa (zcp T.w_Shelf_wood (fe_v 0)) (zaa (zcp T.w_Shelf_held (fe_v 0)) (zaa (fe_v 1) zac))))))
theorem kr_Shelf_cut (T:TX K mg) (R_cut_rows:RCal P w K mg base 89 "cut_rows" r_cut):RMth P w K mg base 90 "Shelf" "cut" zeq:=T.f_Shelf_cut.rmth sc_Shelf_cut (fun _ _ _ _ _ _=>ls2 fun _ _=>rfl) (fun f cdv A outer s H E hr=>dr_Shelf_cut T R_cut_rows hr)
theorem sc__law_bad:FnScope ["_law_shelf", "_law_way", "_law_number", "_law_many", "_law_great", "_law_place", "_law_own"] ["_law_shelf", "_law_way", "_law_number", "_law_many"] (zab s__law_bad):=⟨rfl,rfl,rfl,by decide +kernel,rfl,by decide +kernel,by decide +kernel⟩
theorem d__law_bad (T:TX K mg) (C_Shelf_cut:Mth P w K mg base 90 "Shelf" "cut" g_Shelf_cut) (C_Shelf_out:Mth P w K mg base 130 "Shelf" "out" zci) (C_Shelf_put:Mth P w K mg base 49 "Shelf" "put" zbt) (C_Shelf_swap:Mth P w K mg base 47 "Shelf" "swap" zdc) (C_Shelf_turned:Mth P w K mg base 131 "Shelf" "turned" zbv) (hr:Room 131 (A.deeper (envOfC "_law_bad" (zab s__law_bad) s.heap.objs.size f cdv))) :
   FSs (cxOf CX0 P w K mg base ["_law_shelf", "_law_way", "_law_number", "_law_many", "_law_great", "_law_place", "_law_own"] "_law_bad" (zab s__law_bad) f cdv A outer s H E).nox (zaj s__law_bad) c__law_bad:=by
 have nd:=sc__law_bad.nd
 exact (zad (zat 4 (zbg zai (fe_mul (fe_v 2) (fe_pow zai zai))) nd) (zad (zat 5 (zav (fe_lst (zaa (zem (fe_neg zai) (zbl (fe_v 2) zai)) (zaa (zbg (zbg (fe_v 3) zai) (zbl (fe_v 2) zai)) (zaa (zbg (fe_v 3) (fe_v 4)) (zaa (zem zai (fe_v 4)) zac))))) (zbl (zen (fe_v 2) zai) zai)) nd) (zad (zat 6 (zav (fe_lst (zaa (fe_v 5) (zaa (fe_v 3) zac))) (zbl (zen (fe_v 2) zai) zai)) nd) (zag (zbu (zfl hr (fe_v 1) zai) (zag (zbw (zbd C_Shelf_put (hr.mono (by decide)) (fe_v 0) (zaa (fe_v 5) (zaa zca zac))))) (zag (zbu (zfl hr (fe_v 1) zai) (zag (zbw (zbd C_Shelf_out (hr.mono (by decide)) (fe_v 0) (zaa (fe_v 6) zac)))) (zag (zbu (zfl hr (fe_v 1) zai) (zag (zbw (zbd C_Shelf_swap (hr.mono (by decide)) (fe_v 0) (zaa (fe_v 6) (zaa zca zac))))) (zag (zbu (zfl hr (fe_v 1) zai) (zag (zbw (zbd C_Shelf_turned (hr.mono (by decide)) (fe_v 0) (zaa (zav (fe_lst (zaa zai (zaa (fe_v 5) zac))) (zbl (fe_v 2) zai)) (zaa (fe_v 5) zac))))) (zag (zbu (zfl hr (fe_v 1) zai) (zag (zbw (zbd C_Shelf_turned (hr.mono (by decide)) (fe_v 0) (zaa (zbg zai (zbl (fe_v 2) zai)) (zaa (zbl (zen (fe_v 2) zai) (zbg zai (zbl (fe_v 2) zai))) zac))))) (zag (zbu (zfl hr (fe_v 1) zai) (zag (zbw (zbd C_Shelf_turned (hr.mono (by decide)) (fe_v 0) (zaa (zbg (zbg (fe_v 3) zai) (zbl (fe_v 2) zai)) (zaa (fe_v 3) zac))))) (zag (zbw (zbd C_Shelf_cut (hr.mono (by decide)) (fe_v 0) (zaa (fe_v 5) zac)))))))))))))))))))
theorem kk__law_bad (T:TX K mg) (C_Shelf_cut:Mth P w K mg base 90 "Shelf" "cut" g_Shelf_cut) (C_Shelf_out:Mth P w K mg base 130 "Shelf" "out" zci) (C_Shelf_put:Mth P w K mg base 49 "Shelf" "put" zbt) (C_Shelf_swap:Mth P w K mg base 47 "Shelf" "swap" zdc) (C_Shelf_turned:Mth P w K mg base 131 "Shelf" "turned" zbv):Cal P w K mg base 132 "_law_bad" g__law_bad:=(T.f__law_bad.cal sc__law_bad (fun _ _ _ _ _ _=>ls4 fun _ _ _ _=>rfl) (fun f cdv A outer s H E hr=>d__law_bad T C_Shelf_cut C_Shelf_out C_Shelf_put C_Shelf_swap C_Shelf_turned hr))
theorem dr__law_bad (T:TX K mg) (R_Shelf_cut:RMth P w K mg base 90 "Shelf" "cut" zeq) (R_Shelf_out:RMth P w K mg base 130 "Shelf" "out" zep) (R_Shelf_put:RMth P w K mg base 49 "Shelf" "put" zcv) (R_Shelf_swap:RMth P w K mg base 47 "Shelf" "swap" zdx) (R_Shelf_turned:RMth P w K mg base 131 "Shelf" "turned" zcj) (hr:Room 131 (A.deeper (envOfC "_law_bad" (zab s__law_bad) s.heap.objs.size f cdv))) :
   RSs (cxOf (CX1 P w) P w K mg base ["_law_shelf", "_law_way", "_law_number", "_law_many", "_law_great", "_law_place", "_law_own"] "_law_bad" (zab s__law_bad) f cdv A outer s H E) (zaj s__law_bad) rc__law_bad:=by
 have nd:=sc__law_bad.nd
 exact (zfq (zat 4 (zbg zai (fe_mul (fe_v 2) (fe_pow zai zai))) nd) (zfq (zat 5 (zav (fe_lst (zaa (zem (fe_neg zai) (zbl (fe_v 2) zai)) (zaa (zbg (zbg (fe_v 3) zai) (zbl (fe_v 2) zai)) (zaa (zbg (fe_v 3) (fe_v 4)) (zaa (zem zai (fe_v 4)) zac))))) (zbl (zen (fe_v 2) zai) zai)) nd) (zfq (zat 6 (zav (fe_lst (zaa (fe_v 5) (zaa (fe_v 3) zac))) (zbl (zen (fe_v 2) zai) zai)) nd) (rss_if (zfl hr (fe_v 1) zai) (zbs (zcq (re_meth R_Shelf_put (hr.mono (by decide)) (fe_v 0) (zaa (fe_v 5) (zaa zca zac))))) (rss_if (zfl hr (fe_v 1) zai) (zbs (zcq (re_meth R_Shelf_out (hr.mono (by decide)) (fe_v 0) (zaa (fe_v 6) zac)))) (rss_if (zfl hr (fe_v 1) zai) (zbs (zcq (re_meth R_Shelf_swap (hr.mono (by decide)) (fe_v 0) (zaa (fe_v 6) (zaa zca zac))))) (rss_if (zfl hr (fe_v 1) zai) (zbs (zcq (re_meth R_Shelf_turned (hr.mono (by decide)) (fe_v 0) (zaa (zav (fe_lst (zaa zai (zaa (fe_v 5) zac))) (zbl (fe_v 2) zai)) (zaa (fe_v 5) zac))))) (rss_if (zfl hr (fe_v 1) zai) (zbs (zcq (re_meth R_Shelf_turned (hr.mono (by decide)) (fe_v 0) (zaa (zbg zai (zbl (fe_v 2) zai)) (zaa (zbl (zen (fe_v 2) zai) (zbg zai (zbl (fe_v 2) zai))) zac))))) (rss_if (zfl hr (fe_v 1) zai) (zbs (zcq (re_meth R_Shelf_turned (hr.mono (by decide)) (fe_v 0) (zaa (zbg (zbg (fe_v 3) zai) (zbl (fe_v 2) zai)) (zaa (fe_v 3) zac))))) (zbs (zcq (re_meth R_Shelf_cut (hr.mono (by decide)) (fe_v 0) (zaa (fe_v 5) zac)))))))))))))
theorem kr__law_bad (T:TX K mg) (R_Shelf_cut:RMth P w K mg base 90 "Shelf" "cut" zeq) (R_Shelf_out:RMth P w K mg base 130 "Shelf" "out" zep) (R_Shelf_put:RMth P w K mg base 49 "Shelf" "put" zcv) (R_Shelf_swap:RMth P w K mg base 47 "Shelf" "swap" zdx) (R_Shelf_turned:RMth P w K mg base 131 "Shelf" "turned" zcj):RCal P w K mg base 132 "_law_bad" zez:=T.f__law_bad.rcal sc__law_bad (fun _ _ _ _ _ _=>ls4 fun _ _ _ _=>rfl) (fun f cdv A outer s H E hr=>dr__law_bad T R_Shelf_cut R_Shelf_out R_Shelf_put R_Shelf_swap R_Shelf_turned hr)
theorem sc__law_refused:FnScope ["_law_shelf", "_law_way", "_law_number", "_law_many", "_law_caught", "e"] ["_law_shelf", "_law_way", "_law_number", "_law_many"] (zab s__law_refused):=⟨rfl,rfl,rfl,by decide +kernel,rfl,by decide +kernel,by decide +kernel⟩
theorem d__law_refused (T:TX K mg) (C__law_bad:Cal P w K mg base 132 "_law_bad" g__law_bad) (C__law_kind_of:Cal P w K mg base 1 "_law_kind_of" zbq) (R__law_bad:RCal P w K mg base 132 "_law_bad" zez) (hr:Room 132 (A.deeper (envOfC "_law_refused" (zab s__law_refused) s.heap.objs.size f cdv))) :
   FSs (cxOf CX0 P w K mg base ["_law_shelf", "_law_way", "_law_number", "_law_many", "_law_caught", "e"] "_law_refused" (zab s__law_refused) f cdv A outer s H E).nox (zaj s__law_refused) c__law_refused:=by
 have nd:=sc__law_refused.nd
 exact (zad (zat 4 zcb nd) (zad (fs_try 5 (fun _=>(zag (zbw (zae C__law_bad (hr.mono (by decide)) (zaa (fe_v 0) (zaa (fe_v 1) (zaa (fe_v 2) (zaa (fe_v 3) zac)))))))) (fun _=>(rts_here (zcq (zdt R__law_bad (hr.mono (by decide)) (zaa (fe_v 0) (zaa (fe_v 1) (zaa (fe_v 2) (zaa (fe_v 3) zac)))))))) (fun _ _=>(zag (zat 4 (fe_v 5) nd))) nd T.up.cat) (zag (zan (fe_eq hr (zae C__law_kind_of (hr.mono (by decide)) (zaa (fe_v 4) zac)) zca)))))
theorem kk__law_refused (T:TX K mg) (C__law_bad:Cal P w K mg base 132 "_law_bad" g__law_bad) (C__law_kind_of:Cal P w K mg base 1 "_law_kind_of" zbq) (R__law_bad:RCal P w K mg base 132 "_law_bad" zez):Cal P w K mg base 133 "_law_refused" zdr:=(T.f__law_refused.cal sc__law_refused (fun _ _ _ _ _ _=>ls4 fun _ _ _ _=>rfl) (fun f cdv A outer s H E hr=>d__law_refused T C__law_bad C__law_kind_of R__law_bad hr)).frz
theorem sc_law:FnScope ["_law_script", "_law_wood", "_law_amount_here", "_law_cell_here", "_law_plain", "_law_shelf", "_law_deeds", "_law_k", "_law_number", "_law_other"] ["_law_script"] (zab s_law):=⟨rfl,rfl,rfl,by decide +kernel,rfl,by decide +kernel,by decide +kernel⟩
structure CX_law (P:Program) (w:World) (K:PySem.W.Frag) (mg:Str→Option Value) (base:Heap):Prop where
 mk ::
 k_Shelf___init__:Mak P w K mg base 47 "Shelf" zas
 k_Shelf_deeds:Mth P w K mg base 1 "Shelf" "deeds" zbx
 k_Shelf_things:Mth P w K mg base 44 "Shelf" "things" zbj
 k_Wood___init___d:Mak P w K mg base 1 "Wood" (dflt 1 zcx)
 k__law_amount:Cal P w K mg base 1 "_law_amount" zfr
 k__law_cell:Cal P w K mg base 1 "_law_cell" zdh
 k__law_deed:Cal P w K mg base 132 "_law_deed" zfc
 k__law_drawn:Cal P w K mg base 1 "_law_drawn" zec
 k__law_full:Cal P w K mg base 133 "_law_full" g__law_full
 k__law_refused:Cal P w K mg base 133 "_law_refused" zdr
 k__law_thing:Cal P w K mg base 1 "_law_thing" zcu
theorem d_law (T:TX K mg) (C:CX_law P w K mg base) (hr:Room 133 (A.deeper (envOfC "law" (zab s_law) s.heap.objs.size f cdv))) :
   FSs (cxOf CX0 P w K mg base ["_law_script", "_law_wood", "_law_amount_here", "_law_cell_here", "_law_plain", "_law_shelf", "_law_deeds", "_law_k", "_law_number", "_law_other"] "law" (zab s_law) f cdv A outer s H E).nox (zaj s_law) c_law:=by
 have nd:=sc_law.nd
 exact (zad (zat 1 (fe_make0 C.k_Wood___init___d (hr.mono (by decide))) nd) (zad (zat 2 (zbl (zae C.k__law_amount (hr.mono (by decide)) (zaa (zae C.k__law_cell (hr.mono (by decide)) (zaa (fe_v 0) (zaa zai zac))) zac)) zai) nd) (zad (zat 3 (zae C.k__law_cell (hr.mono (by decide)) (zaa (fe_v 0) (zaa zai zac))) nd) (zad (zbu (zfl hr (zbl (fe_v 3) zai) zai) (zag (zan (zae C.k__law_full (hr.mono (by decide)) (zaa (fe_make C.k_Shelf___init__ (hr.mono (by decide)) (zaa (fe_v 1) (zaa (fe_repL (zaa zca zac) (zbg zai (zbl (zen (fe_v 3) zai) zai))) zac))) (zaa (fe_v 1) (zaa (zae C.k__law_cell (hr.mono (by decide)) (zaa (fe_v 0) (zaa zai zac))) zac)))))) zau) (zad (fs_setCompM 4 (compOk_mk (x:="_law_number") (N':=[]) (fr:=[]) (by decide +kernel) rfl rfl rfl rfl rfl) (zae C.k__law_drawn (hr.mono (by decide)) (zaa (zae C.k__law_cell (hr.mono (by decide)) (zaa (fe_v 0) (zaa zai zac))) (zaa (fe_v 2) zac))) (fun _ _ _ _=>.nil) (fun _ _ _ _=>(zae C.k__law_thing (hr.mono (by decide)) (zaa (fe_v 0) (zaa (zbl (zen (fe_v 0) zai) zai) zac)))) nd) (zad (zat 5 (fe_make C.k_Shelf___init__ (hr.mono (by decide)) (zaa (fe_v 1) (zaa (fe_listW T.b_list (zaa (fe_v 4) zac)) zac))) nd) (zad (zat 6 (fe_newL zac) nd) (zad (fs_forR 7 nd T.b_range zai (zad (fs_unpL [8,9] (names_cons 8 nd (names_cons 9 nd Names.nil)) (zae C.k__law_drawn (hr.mono (by decide)) (zaa (zae C.k__law_cell (hr.mono (by decide)) (zaa (fe_v 0) (zaa (zbg zai (fe_v 7)) zac))) (zaa zai zac)))) (zad (zbu (fb_not (fb_val (zae C.k__law_refused (hr.mono (by decide)) (zaa (fe_v 5) (zaa (zbl (fe_v 8) zai) (zaa (zen (fe_v 8) zai) (zaa (fe_len T.b_len (zaa (fe_v 4) zac)) zac))))))) (zag (zan fe_bl)) zau) (zad (zbu (fb_w (fw_or (fb_neO hr (zef C.k_Shelf_things (hr.mono (by decide)) (fe_v 5)) (fe_v 4)) (fw_or1 (fb_neO hr (zef C.k_Shelf_deeds (hr.mono (by decide)) (fe_v 5)) (fe_v 6))))) (zag (zan fe_bl)) zau) (zag (zbu (fb_w (fw_and (zfl hr (zbl (fe_v 9) zai) zai) (fw_and1 (fb_not (fb_val (zae C.k__law_deed (hr.mono (by decide)) (zaa (fe_v 5) (zaa (fe_v 4) (zaa (fe_v 6) (zaa (zen (fe_v 9) zai) (zaa (zbl (fe_v 7) zai) zac))))))))))) (zag (zan fe_bl)) zau))))) PassesOwn.never) (zag (zan (fe_and (fe_eqO hr (zef C.k_Shelf_things (hr.mono (by decide)) (fe_v 5)) (fe_v 4)) (fe_one (fe_eqO hr (zef C.k_Shelf_deeds (hr.mono (by decide)) (fe_v 5)) (fe_v 6))))))))))))))
theorem law_fn {P:Program}{w:World}{K:PySem.W.Frag}{mg:Str→Option Value} (T:TX K mg) (C:∀base,CX_law P w K mg base):∃fa fd,mg "law"=some (.ref fa)∧(∀(s:Shared) (v:Value),BindsTo s fd ⟨[v],[]⟩ [("_law_script",v)])∧∀base,FnOk P w K mg base CX0 134 fa fd ["_law_script"] (spG K mg g_law):=by
 obtain ⟨f,fd,dV,F,hm,rfl⟩:=T.f_law.ex
 have B:=F.binds0 (ps:=["_law_script"]) (fun _ _ _ _ _ _=>ls1 fun _=>rfl)
 refine ⟨f,fd,hm,?_,fun base=>F.ok sc_law fun cdv A outer s H E hr=>d_law T (C base) hr⟩
 obtain ⟨oc,od,kV,doc,pm,an,cdv,ct,osl,rfl,lk,hcd⟩:=F.ex
 exact fun s v=>.of_eq rfl
theorem law_all {P:Program}{w:World}{K:PySem.W.Frag}{mg:Str→Option Value} (T:TX K mg):∃fa fd,mg "law"=some (.ref fa)∧(∀(s:Shared) (v:Value),BindsTo s fd ⟨[v],[]⟩ [("_law_script",v)])∧∀base,FnOk P w K mg base CX0 134 fa fd ["_law_script"] (spG K mg g_law):=by
 refine law_fn T fun base=>?_
 have k_Wood_numbered:=kk_Wood_numbered (P:=P) (w:=w) (base:=base) T 
 have k_check_room:=kk_check_room (P:=P) (w:=w) (base:=base) T 
 have zbf:=kr_check_room (P:=P) (w:=w) (base:=base) T 
 have k_height:=kk_height (P:=P) (w:=w) (base:=base) T 
 have k_height_above:=kk_height_above (P:=P) (w:=w) (base:=base) T k_height
 have k_in_balance:=kk_in_balance (P:=P) (w:=w) (base:=base) T k_height
 have k_size:=kk_size (P:=P) (w:=w) (base:=base) T 
 have k_size_above:=kk_size_above (P:=P) (w:=w) (base:=base) T k_size
 have k_back:=kk_back (P:=P) (w:=w) (base:=base) T 
 have hft:∀x g,ft x=some g→Cal P w K mg base 0 x g:=by
   intro x g e
   unfold ft at e
   cases e
 have k_backward_sum:=kk_backward_sum (P:=P) (w:=w) (base:=base) T k_back hft
 have k_total:=kk_total (P:=P) (w:=w) (base:=base) T 
 have k_onward_sum:=kk_onward_sum (P:=P) (w:=w) (base:=base) T k_total hft
 have k_sums_above:=kk_sums_above (P:=P) (w:=w) (base:=base) T k_backward_sum k_onward_sum
 have k_Wood_node:=kk_Wood_node (P:=P) (w:=w) (base:=base) T k_Wood_numbered k_check_room k_height_above k_in_balance k_size_above k_sums_above
 have k_built:=kk_built (P:=P) (w:=w) (base:=base) T k_Wood_node 40
 have k_make_of:=kk_make_of (P:=P) (w:=w) (base:=base) T k_built k_check_room
 have zfh:=kr_make_of (P:=P) (w:=w) (base:=base) T zbf
 have k_Shelf___init__:=kk_Shelf___init__ (P:=P) (w:=w) (base:=base) T k_make_of
 have zcf:=kr_Shelf___init__ (P:=P) (w:=w) (base:=base) T zfh
 have k_Shelf___init___d:=kd_Shelf___init__ (P:=P) (w:=w) (base:=base) T k_make_of
 have k_Shelf_deeds:=kk_Shelf_deeds (P:=P) (w:=w) (base:=base) T 
 have k_seen:=kk_seen (P:=P) (w:=w) (base:=base) T 
 have k_gather:=kk_gather (P:=P) (w:=w) (base:=base) T k_seen 40
 have k_things_of:=kk_things_of (P:=P) (w:=w) (base:=base) T k_gather
 have k_Shelf_things:=kk_Shelf_things (P:=P) (w:=w) (base:=base) T k_things_of
 have k_Wood___init__:=kk_Wood___init__ (P:=P) (w:=w) (base:=base) T 
 have k_Wood___init___d:=kd_Wood___init__ (P:=P) (w:=w) (base:=base) T 
 have k__law_amount:=kk__law_amount (P:=P) (w:=w) (base:=base) T 
 have k__law_cell:=kk__law_cell (P:=P) (w:=w) (base:=base) T 
 have k_Shelf_hold:=kk_Shelf_hold (P:=P) (w:=w) (base:=base) T 
 have k_check_place:=kk_check_place (P:=P) (w:=w) (base:=base) T 
 have zap:=kr_check_place (P:=P) (w:=w) (base:=base) T 
 have k_thing_at:=kk_thing_at (P:=P) (w:=w) (base:=base) T k_seen k_size 40
 have k_at:=kk_at (P:=P) (w:=w) (base:=base) T k_check_place k_size k_thing_at
 have r_at:=kr_at (P:=P) (w:=w) (base:=base) T k_size zap
 have k_Wood_turned:=kk_Wood_turned (P:=P) (w:=w) (base:=base) T k_Wood_numbered k_back k_height k_size k_total
 have k_parts:=kk_parts (P:=P) (w:=w) (base:=base) T k_Wood_turned
 have k_lifted_left:=kk_lifted_left (P:=P) (w:=w) (base:=base) T k_Wood_node k_height k_parts
 have k_lifted_right:=kk_lifted_right (P:=P) (w:=w) (base:=base) T k_Wood_node k_height k_parts
 have k_balanced:=kk_balanced (P:=P) (w:=w) (base:=base) T k_Wood_node k_height k_in_balance k_lifted_left k_lifted_right
 have k_joined:=kk_joined (P:=P) (w:=w) (base:=base) T k_Wood_node k_balanced k_height k_in_balance k_parts 40
 have k_taken_out:=kk_taken_out (P:=P) (w:=w) (base:=base) T k_balanced k_parts k_size k_joined k_thing_at 40
 have k_laid_together:=kk_laid_together (P:=P) (w:=w) (base:=base) T k_joined k_thing_at k_taken_out
 have k_out:=kk_out (P:=P) (w:=w) (base:=base) T k_check_place k_size k_taken_out
 have k_out_rows:=k_out.alias T.al_out_rows
 have r_out:=kr_out (P:=P) (w:=w) (base:=base) T k_size zap
 have r_out_rows:=r_out.alias T.al_out_rows
 have k_Shelf_out:=kk_Shelf_out (P:=P) (w:=w) (base:=base) T k_Shelf_hold k_at k_out_rows
 have zep:=kr_Shelf_out (P:=P) (w:=w) (base:=base) T k_Shelf_hold k_at r_at r_out_rows
 have k_put_in:=kk_put_in (P:=P) (w:=w) (base:=base) T k_Wood_node k_balanced k_parts k_size 40
 have k_put:=kk_put (P:=P) (w:=w) (base:=base) T k_check_place k_check_room k_put_in k_size
 have k_put_rows:=k_put.alias T.al_put_rows
 have r_put:=kr_put (P:=P) (w:=w) (base:=base) T k_check_place k_size zap zbf
 have r_put_rows:=r_put.alias T.al_put_rows
 have k_Shelf_put:=kk_Shelf_put (P:=P) (w:=w) (base:=base) T k_Shelf_hold k_put_rows
 have zcv:=kr_Shelf_put (P:=P) (w:=w) (base:=base) T k_Shelf_hold r_put_rows
 have k_given:=kk_given (P:=P) (w:=w) (base:=base) T k_Wood_node k_parts k_size 40
 have k_swapped:=kk_swapped (P:=P) (w:=w) (base:=base) T k_check_place k_given k_size
 have zev:=kr_swapped (P:=P) (w:=w) (base:=base) T k_size zap
 have k_Shelf_swap:=kk_Shelf_swap (P:=P) (w:=w) (base:=base) T k_Shelf_hold k_swapped
 have zdx:=kr_Shelf_swap (P:=P) (w:=w) (base:=base) T k_Shelf_hold zev
 have k_check_stretch:=kk_check_stretch (P:=P) (w:=w) (base:=base) T k_size
 have zcl:=kr_check_stretch (P:=P) (w:=w) (base:=base) T k_size
 have k_cut_ahead:=kk_cut_ahead (P:=P) (w:=w) (base:=base) T k_joined k_parts k_size 40
 have k_turned_part:=kk_turned_part (P:=P) (w:=w) (base:=base) T k_Wood_turned k_check_stretch k_cut_ahead k_laid_together
 have zcs:=kr_turned_part (P:=P) (w:=w) (base:=base) T zcl
 have k_Shelf_turned:=kk_Shelf_turned (P:=P) (w:=w) (base:=base) T k_Shelf_hold k_turned_part
 have zcj:=kr_Shelf_turned (P:=P) (w:=w) (base:=base) T k_Shelf_hold zcs
 have k__law_thing:=kk__law_thing (P:=P) (w:=w) (base:=base) T 
 have k__law_deed:=kk__law_deed (P:=P) (w:=w) (base:=base) T k_Shelf_out k_Shelf_put k_Shelf_swap k_Shelf_turned k__law_thing
 have k__law_drawn:=kk__law_drawn (P:=P) (w:=w) (base:=base) T 
 have k_Shelf_make:=kk_Shelf_make (P:=P) (w:=w) (base:=base) T 
 have k_laid:=kk_laid (P:=P) (w:=w) (base:=base) T k_check_room k_laid_together k_size
 have k_laid_rows:=k_laid.alias T.al_laid_rows
 have r_laid:=kr_laid (P:=P) (w:=w) (base:=base) T k_size zbf
 have r_laid_rows:=r_laid.alias T.al_laid_rows
 have k_Shelf_laid:=kk_Shelf_laid (P:=P) (w:=w) (base:=base) T k_Shelf_hold k_Shelf_make k_laid_rows k_size
 have zdy:=kr_Shelf_laid (P:=P) (w:=w) (base:=base) T k_Shelf_hold k_Shelf_make r_laid_rows
 have k__law_kind_of:=kk__law_kind_of (P:=P) (w:=w) (base:=base) T 
 have k__law_more:=kk__law_more (P:=P) (w:=w) (base:=base) T k_Shelf_laid k_Shelf_put k__law_kind_of zdy zcv
 have k__law_not_made:=kk__law_not_made (P:=P) (w:=w) (base:=base) T k_Shelf___init__ k__law_kind_of zcf
 have k__law_full:=kk__law_full (P:=P) (w:=w) (base:=base) T k_Shelf___init__ k_Shelf_deeds k_Shelf_laid k_Shelf_out k_Shelf_put k_Shelf_things k__law_more k__law_not_made
 have k_cut:=kk_cut (P:=P) (w:=w) (base:=base) T k_check_place k_cut_ahead k_size
 have k_cut_rows:=k_cut.alias T.al_cut_rows
 have r_cut:=kr_cut (P:=P) (w:=w) (base:=base) T k_size zap
 have r_cut_rows:=r_cut.alias T.al_cut_rows
 have k_Shelf_cut:=kk_Shelf_cut (P:=P) (w:=w) (base:=base) T k_Shelf___init___d k_Shelf_hold k_cut_rows
 have zeq:=kr_Shelf_cut (P:=P) (w:=w) (base:=base) T r_cut_rows
 have k__law_bad:=kk__law_bad (P:=P) (w:=w) (base:=base) T k_Shelf_cut k_Shelf_out k_Shelf_put k_Shelf_swap k_Shelf_turned
 have zez:=kr__law_bad (P:=P) (w:=w) (base:=base) T zeq zep zcv zdx zcj
 have k__law_refused:=kk__law_refused (P:=P) (w:=w) (base:=base) T k__law_bad k__law_kind_of zez
 exact ⟨k_Shelf___init__,k_Shelf_deeds,k_Shelf_things,k_Wood___init___d,k__law_amount,k__law_cell,k__law_deed,k__law_drawn,k__law_full,k__law_refused,k__law_thing⟩
end Pg
set_option maxHeartbeats 8000000
open PySem PySem.W L2 F PySem.Spec PyProof.Rows
namespace PySem.W.Fast
def tw15202504672505527508:Unit:=()
def tw13283901242905680424:Unit:=()
def tw16935890898999264075:Unit:=()
def tw14351674248623448554:Unit:=()
def tw16174282462029269889:Unit:=()
def tw4085808787374035151:Unit:=()
def tw4104459787001517842:Unit:=()
def tw5462007766557625455:Unit:=()
def tw10034964872529739833:Unit:=()
def tw15534468520495399135:Unit:=()
def tw16061303435747456183:Unit:=()
def tw3926004130838845161:Unit:=()
def tw1625974530907887045:Unit:=()
def tw17500348985786495654:Unit:=()
def tw13102269309990098391:Unit:=()
def tw17966982554745315666:Unit:=()
def tw7406335769384075399:Unit:=()
def tw15658246530563031861:Unit:=()
def tw2089443814641874358:Unit:=()
def tw17021635145950806696:Unit:=()
def tw4435602292917705850:Unit:=()
def tw17573866421265971541:Unit:=()
def tw12125322918605321318:Unit:=()
def tw15030004610859105552:Unit:=()
def tw11096818595060087538:Unit:=()
def tw3740266284222490954:Unit:=()
def tw12041874659662146310:Unit:=()
def tw14860643790796361189:Unit:=()
def tw10676148735799449305:Unit:=()
def tw8487450554893455223:Unit:=()
def tw11779037795230395013:Unit:=()
def tw16827837995891506664:Unit:=()
def tw1206127637994173982:Unit:=()
def tw8944437573772263531:Unit:=()
def tw2898762206439208406:Unit:=()
def tw16071123726340242414:Unit:=()
def tw13042403559161018725:Unit:=()
def tw18024720335180543937:Unit:=()
def tw15781452989417282445:Unit:=()
def tw3551309136123974106:Unit:=()
def tw13498015836960410952:Unit:=()
def tw13666405389874534611:Unit:=()
def tw6782145753377173931:Unit:=()
def tw2700068200131098718:Unit:=()
def tw15613779675214153722:Unit:=()
def tw10195018457258152900:Unit:=()
def tw16170340069583480329:Unit:=()
def tw12516883611792169202:Unit:=()
def tw9921587918216249815:Unit:=()
def tw2275817240292362428:Unit:=()
def tw12174431733655751886:Unit:=()
def tw17337139372200708171:Unit:=()
def tw16256480144958240302:Unit:=()
def tw7524029810554669012:Unit:=()
def tw14273643008735231253:Unit:=()
def tw17412862662029059598:Unit:=()
def tw3506897420487002798:Unit:=()
def tw6540146510280888920:Unit:=()
def tw8515734996329491334:Unit:=()
def tw10259880073362034421:Unit:=()
def tw17162535705211573452:Unit:=()
def tw12110047684080582843:Unit:=()
def tw8924923807748821033:Unit:=()
def tw4592937964304921311:Unit:=()
def tw609463046371042032:Unit:=()
def tw11678468411632150577:Unit:=()
def tw14511446582606987561:Unit:=()
def tw18393927455334141703:Unit:=()
def tw2721211612951088713:Unit:=()
def tw8376623352825306573:Unit:=()
def tw2795441745776043637:Unit:=()
def tw16350867437931569922:Unit:=()
def tw6572690903844185142:Unit:=()
def tw3447067375365828208:Unit:=()
def tw17035255828359088472:Unit:=()
def tw3231198978625806622:Unit:=()
def tw13495098616876737194:Unit:=()
def tw9323770768975336994:Unit:=()
def tw5254203880129441082:Unit:=()
def tw8566195666329283678:Unit:=()
def tw6687123993545824123:Unit:=()
def tw13395711911183652679:Unit:=()
def tw17913512504908630031:Unit:=()
def tw12529727698835497339:Unit:=()
def tw890798823825138910:Unit:=()
def tw17568619036001504733:Unit:=()
def tw6582928607506838060:Unit:=()
def tw17715968202437302516:Unit:=()
def tw17448648678060599851:Unit:=()
def tw72325142374871690:Unit:=()
def tw1938392678399356308:Unit:=()
def tw17397701260092127251:Unit:=()
def tw11168077738973994616:Unit:=()
def tw172680792546318794:Unit:=()
def tw15713848844208657088:Unit:=()
def tw11306871584316910763:Unit:=()
def tw2038122528633512342:Unit:=()
def tw45275324455064678:Unit:=()
def tw10953776290589415136:Unit:=()
def tw8984517215164433338:Unit:=()
def tw17206149040648578436:Unit:=()
def tw13313559341677095882:Unit:=()
def tw11040841170339354693:Unit:=()
def tw6862567156583226863:Unit:=()
def tw771458040399273847:Unit:=()
def tw6685485250949288380:Unit:=()
def tw16876230598404783867:Unit:=()
def tw5617153601340742789:Unit:=()
def tw8479566799193723359:Unit:=()
def tw6689089661160127386:Unit:=()
def tw13339547802332446036:Unit:=()
def tw13967539445666859817:Unit:=()
def tw5168531337564965375:Unit:=()
def tw11498109377495418007:Unit:=()
def tw10778001700584284227:Unit:=()
def tw1336224173091465979:Unit:=()
def tw1101979812698167355:Unit:=()
def tw7888922067896565892:Unit:=()
def tw7932969855406368884:Unit:=()
def tw15453881667820333303:Unit:=()
def tw2388999720588995358:Unit:=()
def tw1136973860686646150:Unit:=()
def tw12390900249092732581:Unit:=()
def tw4429003184579120060:Unit:=()
def tw18049670947230829031:Unit:=()
def tw15789372418747418791:Unit:=()
def tw37948746170888401:Unit:=()
def tw2883292561649144375:Unit:=()
def tw1161745487937575576:Unit:=()
def tw6002141861977226138:Unit:=()
def tw5399911241342388330:Unit:=()
def tw7806399010240241805:Unit:=()
def tw10975641734448308257:Unit:=()
def tw16520603384167773429:Unit:=()
def tw2309188807958273179:Unit:=()
def tw6366701416140396874:Unit:=()
def tw2607011963541010273:Unit:=()
def tw9596530942466479863:Unit:=()
def tw17315372872967183139:Unit:=()
def tw6348849734239374015:Unit:=()
def tw14807305113126532018:Unit:=()
def tw8420028719474225041:Unit:=()
def tw5599027282852930084:Unit:=()
def tw3155194236781532036:Unit:=()
def tw8273335180081592713:Unit:=()
def tw130549712108523347:Unit:=()
def tw7793114688245547978:Unit:=()
def tw2025651759501873994:Unit:=()
def tw8061169215978129038:Unit:=()
def tw11274241600073685775:Unit:=()
def tw7341336029539353057:Unit:=()
def tw8141231445642087583:Unit:=()
def tw13203862766569253881:Unit:=()
def tw10512784096040766295:Unit:=()
def tw11069629960994740798:Unit:=()
def tw7977906348725718783:Unit:=()
def tw10778082764265245544:Unit:=()
def tw16341333222527331390:Unit:=()
def tw171902649125146038:Unit:=()
def tw9148248863911921935:Unit:=()
def tw1429587673353687145:Unit:=()
def tw245080936512164712:Unit:=()
def tw16267941599936491672:Unit:=()
def tw1212710708028624826:Unit:=()
def tw294238335420298440:Unit:=()
def tw7420747838393447942:Unit:=()
def tw6006394246909445647:Unit:=()
def tw8674988597659654438:Unit:=()
def tw16912581664036277044:Unit:=()
def tw6676386677564654637:Unit:=()
def tw3249717183502295960:Unit:=()
def tw11624745754092519969:Unit:=()
def tw4409488865964241476:Unit:=()
def tw4561175154779472473:Unit:=()
def tw8785100088979049087:Unit:=()
def tw425533696562825779:Unit:=()
def tw6547767966046444835:Unit:=()
def tw13055389628464610666:Unit:=()
def tw5038860953647000377:Unit:=()
def tw2196427560446164056:Unit:=()
def tw10036155771868098793:Unit:=()
def tw12322010444926415363:Unit:=()
def tw1027983643103066488:Unit:=()
def tw15763308541309562595:Unit:=()
def tw5777927185081457917:Unit:=()
def tw12758191136926286876:Unit:=()
def tw2981430386829816521:Unit:=()
def tw16962449918081435185:Unit:=()
def tw6106779995558303822:Unit:=()
def tw9710162758022982177:Unit:=()
def tw2375066137588718889:Unit:=()
def tw16898038164071444883:Unit:=()
def tw6120100789926087888:Unit:=()
def tw6685031908678335237:Unit:=()
def tw6190315734433643248:Unit:=()
def tw9578696844662666473:Unit:=()
def tw5774914553183993777:Unit:=()
def tw10218149574482373627:Unit:=()
def tw9671002935572648114:Unit:=()
def tw13011544216163256081:Unit:=()
def tw9326494581664857295:Unit:=()
def tw1114027347673708857:Unit:=()
def tw10562478676580556905:Unit:=()
def tw7426574529118655012:Unit:=()
def tw8977005384801558039:Unit:=()
def tw1246743963115116577:Unit:=()
def tw16365351619518922937:Unit:=()
def tw15352698226480789980:Unit:=()
def tw12408054478651326855:Unit:=()
def tw6760568000659851864:Unit:=()
def tw2112867090165433430:Unit:=()
def tw15712652687735866731:Unit:=()
def tw12940955966327778176:Unit:=()
def tw2067938285503071429:Unit:=()
def tw6855641904420483808:Unit:=()
def tw451514349089017438:Unit:=()
def tw17568056201689216031:Unit:=()
def tw6826943655392268507:Unit:=()
def tw3166473339774595476:Unit:=()
def tw130828219803338531:Unit:=()
def tw17548925961728856413:Unit:=()
def tw3552728950673144735:Unit:=()
def tw16743615348226690758:Unit:=()
def tw15634276920880874706:Unit:=()
def tw16924682181883514228:Unit:=()
def tw56760388096828620:Unit:=()
def tw7882286685819138304:Unit:=()
def tw6147899217391800355:Unit:=()
def tw17497565266123357559:Unit:=()
def tw568282780947212488:Unit:=()
def tw14462374622566028105:Unit:=()
def tw13135321896287674948:Unit:=()
def tw17575274706855800771:Unit:=()
def tw8776053571333596586:Unit:=()
def tw15153911691114719635:Unit:=()
def tw15374417606359647974:Unit:=()
def tw16762214114359107158:Unit:=()
def tw4966218761318398090:Unit:=()
def tw17781649321753573806:Unit:=()
def tw2003646657977831946:Unit:=()
def tw240264397565149637:Unit:=()
def tw6386086214930173145:Unit:=()
def tw10598142291650874343:Unit:=()
def tw497492442598598987:Unit:=()
def tw5344242488393190928:Unit:=()
def tw15862214968554905352:Unit:=()
def tw11769632583121977666:Unit:=()
def tw2466710116790498984:Unit:=()
def tw3732231080336959213:Unit:=()
def tw4834189468221359366:Unit:=()
def tw6419968630144678327:Unit:=()
def tw15867847577153253578:Unit:=()
def tw168730496224278165:Unit:=()
def tw17224663800370709299:Unit:=()
def tw5600717229329325500:Unit:=()
def tw2409358294315608264:Unit:=()
def tw13758111719729542202:Unit:=()
def tw2392552018925661773:Unit:=()
def tw7718595811632849518:Unit:=()
def tw18175010847017571632:Unit:=()
def tw18351570238079490037:Unit:=()
def tw13508354503867133447:Unit:=()
def tw4702022869770734220:Unit:=()
def tw5880494341841960242:Unit:=()
def tw14473274381476389804:Unit:=()
def tw11351846539530060610:Unit:=()
def tw5702788911974402899:Unit:=()
def tw7320276561689008283:Unit:=()
def tw16464901714129139389:Unit:=()
def tw14628534235606086781:Unit:=()
def tw10879066909900759497:Unit:=()
def tw13873690657502832032:Unit:=()
def tw2366906760840095529:Unit:=()
def tw16888260259650738543:Unit:=()
def tw16005547706628914371:Unit:=()
def tw1346997209559202338:Unit:=()
def tw12912586341638800529:Unit:=()
def tw3427598006905355613:Unit:=()
def tw12794075703206566232:Unit:=()
def tw12521985991184281490:Unit:=()
def tw15013116830094361279:Unit:=()
def tw2595019791512189561:Unit:=()
def tw12824001654879701210:Unit:=()
def tw17882578152906071640:Unit:=()
def tw5916298242859030031:Unit:=()
def tw6299464869810898888:Unit:=()
def tw10123137148685954211:Unit:=()
def tw5587494835780500925:Unit:=()
def tw18398911170439721028:Unit:=()
def tw13550323257005726266:Unit:=()
def tw12039556914617947660:Unit:=()
def tw11574891579222962629:Unit:=()
def tw5240906969895269586:Unit:=()
def tw916873434712701892:Unit:=()
def tw5537462920137476004:Unit:=()
def tw12751029097157366815:Unit:=()
def tw17470846678158608737:Unit:=()
def tw4739544286538315135:Unit:=()
def tw6320945003891851482:Unit:=()
def tw13984266515974333434:Unit:=()
def tw9725249565096437760:Unit:=()
def tw18302220826719035664:Unit:=()
def tw10179423355772192494:Unit:=()
def tw6885792638051265559:Unit:=()
def tw8266622536949863202:Unit:=()
def tw14150572173881893843:Unit:=()
def tw16933111066821065745:Unit:=()
def tw14448362415574603354:Unit:=()
def tw13669325080868030575:Unit:=()
def tw16937959911540076214:Unit:=()
def tw4464992600129813974:Unit:=()
def tw16550732626886170381:Unit:=()
def tw2924558598731200328:Unit:=()
def tw17811050547530904144:Unit:=()
def tw4990399819748814623:Unit:=()
def tw12042940187875113630:Unit:=()
def tw2998615419983176486:Unit:=()
def tw15582994718034628424:Unit:=()
def tw3910516569602227059:Unit:=()
def tw12723433722380678980:Unit:=()
def tw2106799665739300780:Unit:=()
def tw12335025648198398418:Unit:=()
def tw6122428206240779252:Unit:=()
def tw13399499929970160999:Unit:=()
def tw10873145591940056685:Unit:=()
def tw15407719385516652351:Unit:=()
def tw13593097633811054355:Unit:=()
def tw1700746362338056962:Unit:=()
def tw11378924508996232483:Unit:=()
def tw9106718858894914887:Unit:=()
def tw17889969458367991008:Unit:=()
def tw5470873959246980948:Unit:=()
def tw5866892863315411565:Unit:=()
def tw18139426116705700116:Unit:=()
def tw1887432915148870644:Unit:=()
def tw12122168291061103726:Unit:=()
def tw3297245884924633943:Unit:=()
def tw5009330885638081453:Unit:=()
def tw3475488977783282293:Unit:=()
def tw9533830340677688327:Unit:=()
def tw4641505867985831988:Unit:=()
def tw12144489471034099164:Unit:=()
def tw18044142366287643491:Unit:=()
def tw5486436962067388374:Unit:=()
def tw1386970388077218952:Unit:=()
def tw17232892736074478348:Unit:=()
def tw2559415670747548110:Unit:=()
def tw13356536423603912897:Unit:=()
def tw4522965664605787811:Unit:=()
def tw1619768071696664202:Unit:=()
def tw11548186991194977424:Unit:=()
def tw4153239972394079761:Unit:=()
end PySem.W.Fast
set_option maxRecDepth 100000 in
set_option maxHeartbeats 0 in
theorem PySem.Challenge.cw_ownshelf_k36_deeds_refused_holds : PySem.Challenge.rw_ownshelf_k36_deeds_refused.Holds := by
 w_on;o_law;k_head;(case hw=>w_witness2)
 k_fill
 refine F.law_walk (l:=PySem.Challenge.rw_ownshelf_k36_deeds_refused) (k:=134) (g:=Pg.g_law) (x:="_law_script") rfl rfl ⟨rfl,by decide,by decide⟩ (fun w h Y=>PySem.W.kIn_of Y) Pg.law_ok ?F
 case F =>
   intro w mg fa h KX G hmg
   have hb_ValueError:mg "ValueError"=none:=by
     refine' PySem.W.mg_none_of KX G ?a_7;k_is
   have hb_abs:mg "abs"=none:=by
     refine' PySem.W.mg_none_of KX G ?a_8;k_is
   have hb_int:mg "int"=none:=by
     refine' PySem.W.mg_none_of KX G ?a_9;k_is
   have hb_isinstance:mg "isinstance"=none:=by
     refine' PySem.W.mg_none_of KX G ?a_10;k_is
   have hb_len:mg "len"=none:=by
     refine' PySem.W.mg_none_of KX G ?a_11;k_is
   have hb_list:mg "list"=none:=by
     refine' PySem.W.mg_none_of KX G ?a_12;k_is
   have hb_max:mg "max"=none:=by
     refine' PySem.W.mg_none_of KX G ?a_13;k_is
   have hb_range:mg "range"=none:=by
     refine' PySem.W.mg_none_of KX G ?a_14;k_is
   have hb_sum:mg "sum"=none:=by
     refine' PySem.W.mg_none_of KX G ?a_15;k_is
   have hi_ABOUT:∃t,mg "ABOUT"=some (.int 1 t):=by
     refine' F.has_int KX G ?a_16;(case a_16=>k_is)
   have hi_AHEAD:∃t,mg "AHEAD"=some (.int 0 t):=by
     refine' F.has_int KX G ?a_17;(case a_17=>k_is)
   have hi_BACK:∃t,mg "BACK"=some (.int 8 t):=by
     refine' F.has_int KX G ?a_18;(case a_18=>k_is)
   have hi_BEHIND:∃t,mg "BEHIND"=some (.int 2 t):=by
     refine' F.has_int KX G ?a_19;(case a_19=>k_is)
   have hi_HEIGHT:∃t,mg "HEIGHT"=some (.int 6 t):=by
     refine' F.has_int KX G ?a_20;(case a_20=>k_is)
   have hi_LEFT:∃t,mg "LEFT"=some (.int 2 t):=by
     refine' F.has_int KX G ?a_21;(case a_21=>k_is)
   have hi_MIDDLE:∃t,mg "MIDDLE"=some (.int 1 t):=by
     refine' F.has_int KX G ?a_22;(case a_22=>k_is)
   have hi_MOST_THINGS:∃t,mg "MOST_THINGS"=some (.int 2000 t):=by
     refine' F.has_int KX G ?a_23;(case a_23=>k_is)
   have hi_RIGHT:∃t,mg "RIGHT"=some (.int 4 t):=by
     refine' F.has_int KX G ?a_24;(case a_24=>k_is)
   have hi_SIZE:∃t,mg "SIZE"=some (.int 5 t):=by
     refine' F.has_int KX G ?a_25;(case a_25=>k_is)
   have hi_THING:∃t,mg "THING"=some (.int 3 t):=by
     refine' F.has_int KX G ?a_26;(case a_26=>k_is)
   have hi_TOTAL:∃t,mg "TOTAL"=some (.int 7 t):=by
     refine' F.has_int KX G ?a_27;(case a_27=>k_is)
   have hi_TURNED:∃t,mg "TURNED"=some (.int 3 t):=by
     refine' F.has_int KX G ?a_28;(case a_28=>k_is)
   have hv_Changed:∃f,mg "Changed"=some (.ref f):=by
     refine' F.has_val KX G ?a_29;(case a_29=>k_is)
   have hv_NoBalance:∃f,mg "NoBalance"=some (.ref f):=by
     refine' F.has_val KX G ?a_30;(case a_30=>k_is)
   have hv_NoMore:∃f,mg "NoMore"=some (.ref f):=by
     refine' F.has_val KX G ?a_31;(case a_31=>k_is)
   have hv_NoName:∃f,mg "NoName"=some (.ref f):=by
     refine' F.has_val KX G ?a_32;(case a_32=>k_is)
   have hv_NoNumber:∃f,mg "NoNumber"=some (.ref f):=by
     refine' F.has_val KX G ?a_33;(case a_33=>k_is)
   have hv_NoPlace:∃f,mg "NoPlace"=some (.ref f):=by
     refine' F.has_val KX G ?a_34;(case a_34=>k_is)
   have hv_NoRow:∃f,mg "NoRow"=some (.ref f):=by
     refine' F.has_val KX G ?a_35;(case a_35=>k_is)
   have hv_NoSum:∃f,mg "NoSum"=some (.ref f):=by
     refine' F.has_val KX G ?a_36;(case a_36=>k_is)
   have hv_NoThing:∃f,mg "NoThing"=some (.ref f):=by
     refine' F.has_val KX G ?a_37;(case a_37=>k_is)
   have hv_NoWay:∃f,mg "NoWay"=some (.ref f):=by
     refine' F.has_val KX G ?a_38;(case a_38=>k_is)
   have hv_TooMany:∃f,mg "TooMany"=some (.ref f):=by
     refine' F.has_val KX G ?a_39;(case a_39=>k_is)
   have hx_NoPlace:F.ExcCls (L2.KOf KX) mg "NoPlace":=by
     refine' F.has_exc KX G ?a_40 ?q_40;(case a_40=>k_is);(case q_40=>k_exc)
   have hx_TooMany:F.ExcCls (L2.KOf KX) mg "TooMany":=by
     refine' F.has_exc KX G ?a_41 ?q_41;(case a_41=>k_is);(case q_41=>k_exc)
   have he_NoPlace:F.ExcI (L2.KOf KX) mg "NoPlace":=by
     refine' F.has_ei KX G ?a_42 ?h1_42 ?h2_42 ?h3_42 ?h4_42 ?h5_42 ?h6_42 ?h7_42 ?h8_42 ?h9_42;(case a_42=>k_is);(case h1_42=>k_is);(case h2_42=>k_is);(case h3_42=>k_is);(case h4_42=>k_is);(case h5_42=>k_is);(case h6_42=>k_is);(case h7_42=>k_is);(case h8_42=>k_is);(case h9_42=>kit_is)
   have hc_NoPlace:F.Cat (L2.KOf KX) mg "NoPlace" "ShelfError":=by
     refine' F.has_cat KX G ?a_43 ?b_43 ?h1_43 ?h2_43 ?h3_43 ?h4_43;(case a_43=>k_is);(case b_43=>k_is);(case h1_43=>k_is);(case h2_43=>k_is);(case h3_43=>k_is);(case h4_43=>k_is)
   have hq_NoPlace_Changed:F.IsF (L2.KOf KX) mg "NoPlace" "Changed" false:=by
     refine' F.has_is KX G ?a_44 ?b_44 ?q_44;(case a_44=>k_is);(case b_44=>k_is);(case q_44=>kit_is)
   have hq_NoPlace_NoBalance:F.IsF (L2.KOf KX) mg "NoPlace" "NoBalance" false:=by
     refine' F.has_is KX G ?a_45 ?b_45 ?q_45;(case a_45=>k_is);(case b_45=>k_is);(case q_45=>kit_is)
   have hq_NoPlace_NoMore:F.IsF (L2.KOf KX) mg "NoPlace" "NoMore" false:=by
     refine' F.has_is KX G ?a_46 ?b_46 ?q_46;(case a_46=>k_is);(case b_46=>k_is);(case q_46=>kit_is)
   have hq_NoPlace_NoName:F.IsF (L2.KOf KX) mg "NoPlace" "NoName" false:=by
     refine' F.has_is KX G ?a_47 ?b_47 ?q_47;(case a_47=>k_is);(case b_47=>k_is);(case q_47=>kit_is)
   have hq_NoPlace_NoNumber:F.IsF (L2.KOf KX) mg "NoPlace" "NoNumber" false:=by
     refine' F.has_is KX G ?a_48 ?b_48 ?q_48;(case a_48=>k_is);(case b_48=>k_is);(case q_48=>kit_is)
   have hq_NoPlace_NoPlace:F.IsF (L2.KOf KX) mg "NoPlace" "NoPlace" true:=by
     refine' F.has_is KX G ?a_49 ?b_49 ?q_49;(case a_49=>k_is);(case b_49=>k_is);(case q_49=>kit_is)
   have hq_NoPlace_NoRow:F.IsF (L2.KOf KX) mg "NoPlace" "NoRow" false:=by
     refine' F.has_is KX G ?a_50 ?b_50 ?q_50;(case a_50=>k_is);(case b_50=>k_is);(case q_50=>kit_is)
   have hq_NoPlace_NoSum:F.IsF (L2.KOf KX) mg "NoPlace" "NoSum" false:=by
     refine' F.has_is KX G ?a_51 ?b_51 ?q_51;(case a_51=>k_is);(case b_51=>k_is);(case q_51=>kit_is)
   have hq_NoPlace_NoThing:F.IsF (L2.KOf KX) mg "NoPlace" "NoThing" false:=by
     refine' F.has_is KX G ?a_52 ?b_52 ?q_52;(case a_52=>k_is);(case b_52=>k_is);(case q_52=>kit_is)
   have hq_NoPlace_NoWay:F.IsF (L2.KOf KX) mg "NoPlace" "NoWay" false:=by
     refine' F.has_is KX G ?a_53 ?b_53 ?q_53;(case a_53=>k_is);(case b_53=>k_is);(case q_53=>kit_is)
   have hq_NoPlace_TooMany:F.IsF (L2.KOf KX) mg "NoPlace" "TooMany" false:=by
     refine' F.has_is KX G ?a_54 ?b_54 ?q_54;(case a_54=>k_is);(case b_54=>k_is);(case q_54=>kit_is)
   have he_TooMany:F.ExcI (L2.KOf KX) mg "TooMany":=by
     refine' F.has_ei KX G ?a_55 ?h1_55 ?h2_55 ?h3_55 ?h4_55 ?h5_55 ?h6_55 ?h7_55 ?h8_55 ?h9_55;(case a_55=>k_is);(case h1_55=>k_is);(case h2_55=>k_is);(case h3_55=>k_is);(case h4_55=>k_is);(case h5_55=>k_is);(case h6_55=>k_is);(case h7_55=>k_is);(case h8_55=>k_is);(case h9_55=>kit_is)
   have hc_TooMany:F.Cat (L2.KOf KX) mg "TooMany" "ShelfError":=by
     refine' F.has_cat KX G ?a_56 ?b_56 ?h1_56 ?h2_56 ?h3_56 ?h4_56;(case a_56=>k_is);(case b_56=>k_is);(case h1_56=>k_is);(case h2_56=>k_is);(case h3_56=>k_is);(case h4_56=>k_is)
   have hq_TooMany_Changed:F.IsF (L2.KOf KX) mg "TooMany" "Changed" false:=by
     refine' F.has_is KX G ?a_57 ?b_57 ?q_57;(case a_57=>k_is);(case b_57=>k_is);(case q_57=>kit_is)
   have hq_TooMany_NoBalance:F.IsF (L2.KOf KX) mg "TooMany" "NoBalance" false:=by
     refine' F.has_is KX G ?a_58 ?b_58 ?q_58;(case a_58=>k_is);(case b_58=>k_is);(case q_58=>kit_is)
   have hq_TooMany_NoMore:F.IsF (L2.KOf KX) mg "TooMany" "NoMore" false:=by
     refine' F.has_is KX G ?a_59 ?b_59 ?q_59;(case a_59=>k_is);(case b_59=>k_is);(case q_59=>kit_is)
   have hq_TooMany_NoName:F.IsF (L2.KOf KX) mg "TooMany" "NoName" false:=by
     refine' F.has_is KX G ?a_60 ?b_60 ?q_60;(case a_60=>k_is);(case b_60=>k_is);(case q_60=>kit_is)
   have hq_TooMany_NoNumber:F.IsF (L2.KOf KX) mg "TooMany" "NoNumber" false:=by
     refine' F.has_is KX G ?a_61 ?b_61 ?q_61;(case a_61=>k_is);(case b_61=>k_is);(case q_61=>kit_is)
   have hq_TooMany_NoPlace:F.IsF (L2.KOf KX) mg "TooMany" "NoPlace" false:=by
     refine' F.has_is KX G ?a_62 ?b_62 ?q_62;(case a_62=>k_is);(case b_62=>k_is);(case q_62=>kit_is)
   have hq_TooMany_NoRow:F.IsF (L2.KOf KX) mg "TooMany" "NoRow" false:=by
     refine' F.has_is KX G ?a_63 ?b_63 ?q_63;(case a_63=>k_is);(case b_63=>k_is);(case q_63=>kit_is)
   have hq_TooMany_NoSum:F.IsF (L2.KOf KX) mg "TooMany" "NoSum" false:=by
     refine' F.has_is KX G ?a_64 ?b_64 ?q_64;(case a_64=>k_is);(case b_64=>k_is);(case q_64=>kit_is)
   have hq_TooMany_NoThing:F.IsF (L2.KOf KX) mg "TooMany" "NoThing" false:=by
     refine' F.has_is KX G ?a_65 ?b_65 ?q_65;(case a_65=>k_is);(case b_65=>k_is);(case q_65=>kit_is)
   have hq_TooMany_NoWay:F.IsF (L2.KOf KX) mg "TooMany" "NoWay" false:=by
     refine' F.has_is KX G ?a_66 ?b_66 ?q_66;(case a_66=>k_is);(case b_66=>k_is);(case q_66=>kit_is)
   have hq_TooMany_TooMany:F.IsF (L2.KOf KX) mg "TooMany" "TooMany" true:=by
     refine' F.has_is KX G ?a_67 ?b_67 ?q_67;(case a_67=>k_is);(case b_67=>k_is);(case q_67=>kit_is)
   have hup:F.UpOk (L2.KOf KX) mg Pg.up:=⟨(F.all_cons (hc_NoPlace) (F.all_cons (hc_TooMany) F.all_nil)),(F.all_cons (he_NoPlace) (F.all_cons (he_TooMany) F.all_nil)),(F.all_cons ((F.all_cons (F.is_of hq_NoPlace_Changed) (F.all_cons (F.is_of hq_NoPlace_NoBalance) (F.all_cons (F.is_of hq_NoPlace_NoMore) (F.all_cons (F.is_of hq_NoPlace_NoName) (F.all_cons (F.is_of hq_NoPlace_NoNumber) (F.all_cons (F.is_of hq_NoPlace_NoPlace) (F.all_cons (F.is_of hq_NoPlace_NoRow) (F.all_cons (F.is_of hq_NoPlace_NoSum) (F.all_cons (F.is_of hq_NoPlace_NoThing) (F.all_cons (F.is_of hq_NoPlace_NoWay) (F.all_cons (F.is_of hq_NoPlace_TooMany) F.all_nil)))))))))))) (F.all_cons ((F.all_cons (F.is_of hq_TooMany_Changed) (F.all_cons (F.is_of hq_TooMany_NoBalance) (F.all_cons (F.is_of hq_TooMany_NoMore) (F.all_cons (F.is_of hq_TooMany_NoName) (F.all_cons (F.is_of hq_TooMany_NoNumber) (F.all_cons (F.is_of hq_TooMany_NoPlace) (F.all_cons (F.is_of hq_TooMany_NoRow) (F.all_cons (F.is_of hq_TooMany_NoSum) (F.all_cons (F.is_of hq_TooMany_NoThing) (F.all_cons (F.is_of hq_TooMany_NoWay) (F.all_cons (F.is_of hq_TooMany_TooMany) F.all_nil)))))))))))) F.all_nil))⟩
   have hal_cut_rows:mg "cut_rows"=mg "cut":=by
     refine' F.has_alias KX G ?a_69 ?b_69;(case a_69=>k_is);(case b_69=>k_is)
   have hal_laid_rows:mg "laid_rows"=mg "laid":=by
     refine' F.has_alias KX G ?a_70 ?b_70;(case a_70=>k_is);(case b_70=>k_is)
   have hal_out_rows:mg "out_rows"=mg "out":=by
     refine' F.has_alias KX G ?a_71 ?b_71;(case a_71=>k_is);(case b_71=>k_is)
   have hal_put_rows:mg "put_rows"=mg "put":=by
     refine' F.has_alias KX G ?a_72 ?b_72;(case a_72=>k_is);(case b_72=>k_is)
   have hw_Shelf_done:F.Fld (L2.KOf KX) mg "Shelf" "done":=by
     refine' F.has_fld KX G ?aC_73 (F.has_cls KX G ?aC_73 ?pg_73 ?hd_73 ?po_73 ?sa_73) ?n_73;(case aC_73=>k_is);(case pg_73=>k_is);(case hd_73=>k_is);(case po_73=>k_is);(case sa_73=>k_is);(case n_73=>k_is)
   have hw_Shelf_held:F.Fld (L2.KOf KX) mg "Shelf" "held":=by
     refine' F.has_fld KX G ?aC_74 (F.has_cls KX G ?aC_74 ?pg_74 ?hd_74 ?po_74 ?sa_74) ?n_74;(case aC_74=>k_is);(case pg_74=>k_is);(case hd_74=>k_is);(case po_74=>k_is);(case sa_74=>k_is);(case n_74=>k_is)
   have hw_Shelf_wood:F.Fld (L2.KOf KX) mg "Shelf" "wood":=by
     refine' F.has_fld KX G ?aC_75 (F.has_cls KX G ?aC_75 ?pg_75 ?hd_75 ?po_75 ?sa_75) ?n_75;(case aC_75=>k_is);(case pg_75=>k_is);(case hd_75=>k_is);(case po_75=>k_is);(case sa_75=>k_is);(case n_75=>k_is)
   have hw_Wood_adding:F.Fld (L2.KOf KX) mg "Wood" "adding":=by
     refine' F.has_fld KX G ?aC_76 (F.has_cls KX G ?aC_76 ?pg_76 ?hd_76 ?po_76 ?sa_76) ?n_76;(case aC_76=>k_is);(case pg_76=>k_is);(case hd_76=>k_is);(case po_76=>k_is);(case sa_76=>k_is);(case n_76=>k_is)
   have hw_Wood_nodes_made:F.Fld (L2.KOf KX) mg "Wood" "nodes_made":=by
     refine' F.has_fld KX G ?aC_77 (F.has_cls KX G ?aC_77 ?pg_77 ?hd_77 ?po_77 ?sa_77) ?n_77;(case aC_77=>k_is);(case pg_77=>k_is);(case hd_77=>k_is);(case po_77=>k_is);(case sa_77=>k_is);(case n_77=>k_is)
   have hf_Wood_numbered:F.HasMth (L2.KOf KX) mg "Wood" "numbered" "Wood.numbered" Pg.s_Wood_numbered:=by
     refine' F.has_mth KX G ?aC_78 (F.has_cls KX G ?aC_78 ?pg_78 ?hd_78 ?po_78 ?sa_78) ?a_78 ?i_78 ?l_78 ?c_78 ?k_78;(case aC_78=>k_is);(case pg_78=>k_is);(case hd_78=>k_is);(case po_78=>k_is);(case sa_78=>k_is);(case a_78=>k_is);(case i_78=>k_is);(case l_78=>k_is);(case c_78=>k_is);(case k_78=>k_is)
   have hf_check_room:F.HasDef (L2.KOf KX) mg "check_room" Pg.s_check_room 0:=by
     refine' F.has_def KX G ?a_79 ?l_79 ?c_79 ?k_79;(case a_79=>k_is);(case l_79=>k_is);(case c_79=>k_is);(case k_79=>k_is)
   have hf_height:F.HasDef (L2.KOf KX) mg "height" Pg.s_height 0:=by
     refine' F.has_def KX G ?a_80 ?l_80 ?c_80 ?k_80;(case a_80=>k_is);(case l_80=>k_is);(case c_80=>k_is);(case k_80=>k_is)
   have hf_height_above:F.HasDef (L2.KOf KX) mg "height_above" Pg.s_height_above 0:=by
     refine' F.has_def KX G ?a_81 ?l_81 ?c_81 ?k_81;(case a_81=>k_is);(case l_81=>k_is);(case c_81=>k_is);(case k_81=>k_is)
   have hf_in_balance:F.HasDef (L2.KOf KX) mg "in_balance" Pg.s_in_balance 0:=by
     refine' F.has_def KX G ?a_82 ?l_82 ?c_82 ?k_82;(case a_82=>k_is);(case l_82=>k_is);(case c_82=>k_is);(case k_82=>k_is)
   have hf_size:F.HasDef (L2.KOf KX) mg "size" Pg.s_size 0:=by
     refine' F.has_def KX G ?a_83 ?l_83 ?c_83 ?k_83;(case a_83=>k_is);(case l_83=>k_is);(case c_83=>k_is);(case k_83=>k_is)
   have hf_size_above:F.HasDef (L2.KOf KX) mg "size_above" Pg.s_size_above 0:=by
     refine' F.has_def KX G ?a_84 ?l_84 ?c_84 ?k_84;(case a_84=>k_is);(case l_84=>k_is);(case c_84=>k_is);(case k_84=>k_is)
   have hf_back:F.HasDef (L2.KOf KX) mg "back" Pg.s_back 0:=by
     refine' F.has_def KX G ?a_85 ?l_85 ?c_85 ?k_85;(case a_85=>k_is);(case l_85=>k_is);(case c_85=>k_is);(case k_85=>k_is)
   have hf_backward_sum:F.HasDef (L2.KOf KX) mg "backward_sum" Pg.s_backward_sum 0:=by
     refine' F.has_def KX G ?a_86 ?l_86 ?c_86 ?k_86;(case a_86=>k_is);(case l_86=>k_is);(case c_86=>k_is);(case k_86=>k_is)
   have hf_total:F.HasDef (L2.KOf KX) mg "total" Pg.s_total 0:=by
     refine' F.has_def KX G ?a_87 ?l_87 ?c_87 ?k_87;(case a_87=>k_is);(case l_87=>k_is);(case c_87=>k_is);(case k_87=>k_is)
   have hf_onward_sum:F.HasDef (L2.KOf KX) mg "onward_sum" Pg.s_onward_sum 0:=by
     refine' F.has_def KX G ?a_88 ?l_88 ?c_88 ?k_88;(case a_88=>k_is);(case l_88=>k_is);(case c_88=>k_is);(case k_88=>k_is)
   have hf_sums_above:F.HasDef (L2.KOf KX) mg "sums_above" Pg.s_sums_above 0:=by
     refine' F.has_def KX G ?a_89 ?l_89 ?c_89 ?k_89;(case a_89=>k_is);(case l_89=>k_is);(case c_89=>k_is);(case k_89=>k_is)
   have hf_Wood_node:F.HasMth (L2.KOf KX) mg "Wood" "node" "Wood.node" Pg.s_Wood_node:=by
     refine' F.has_mth KX G ?aC_90 (F.has_cls KX G ?aC_90 ?pg_90 ?hd_90 ?po_90 ?sa_90) ?a_90 ?i_90 ?l_90 ?c_90 ?k_90;(case aC_90=>k_is);(case pg_90=>k_is);(case hd_90=>k_is);(case po_90=>k_is);(case sa_90=>k_is);(case a_90=>k_is);(case i_90=>k_is);(case l_90=>k_is);(case c_90=>k_is);(case k_90=>k_is)
   have hf_built:F.HasDef (L2.KOf KX) mg "built" Pg.s_built 0:=by
     refine' F.has_def KX G ?a_91 ?l_91 ?c_91 ?k_91;(case a_91=>k_is);(case l_91=>k_is);(case c_91=>k_is);(case k_91=>k_is)
   have hf_make_of:F.HasDef (L2.KOf KX) mg "make_of" Pg.s_make_of 0:=by
     refine' F.has_def KX G ?a_92 ?l_92 ?c_92 ?k_92;(case a_92=>k_is);(case l_92=>k_is);(case c_92=>k_is);(case k_92=>k_is)
   have hf_Shelf___init__:F.HasMk (L2.KOf KX) mg "Shelf" "Shelf.__init__" Pg.s_Shelf___init__ 1:=by
     refine' F.has_mk1 KX G ?aC_93 ?mk_93 ?kc_93 ?a_93 ?i_93 ?l_93 ?c_93 ?k_93 ?t_93;(case aC_93=>k_is);(case mk_93=>k_is);(case kc_93=>k_is);(case a_93=>k_is);(case i_93=>k_is);(case l_93=>k_is);(case c_93=>k_is);(case k_93=>k_is);(case t_93=>k_is)
   have hf_Shelf_deeds:F.HasMth (L2.KOf KX) mg "Shelf" "deeds" "Shelf.deeds" Pg.s_Shelf_deeds:=by
     refine' F.has_mth KX G ?aC_94 (F.has_cls KX G ?aC_94 ?pg_94 ?hd_94 ?po_94 ?sa_94) ?a_94 ?i_94 ?l_94 ?c_94 ?k_94;(case aC_94=>k_is);(case pg_94=>k_is);(case hd_94=>k_is);(case po_94=>k_is);(case sa_94=>k_is);(case a_94=>k_is);(case i_94=>k_is);(case l_94=>k_is);(case c_94=>k_is);(case k_94=>k_is)
   have hf_seen:F.HasDef (L2.KOf KX) mg "seen" Pg.s_seen 0:=by
     refine' F.has_def KX G ?a_95 ?l_95 ?c_95 ?k_95;(case a_95=>k_is);(case l_95=>k_is);(case c_95=>k_is);(case k_95=>k_is)
   have hf_gather:F.HasDef (L2.KOf KX) mg "gather" Pg.s_gather 0:=by
     refine' F.has_def KX G ?a_96 ?l_96 ?c_96 ?k_96;(case a_96=>k_is);(case l_96=>k_is);(case c_96=>k_is);(case k_96=>k_is)
   have hf_things_of:F.HasDef (L2.KOf KX) mg "things_of" Pg.s_things_of 0:=by
     refine' F.has_def KX G ?a_97 ?l_97 ?c_97 ?k_97;(case a_97=>k_is);(case l_97=>k_is);(case c_97=>k_is);(case k_97=>k_is)
   have hf_Shelf_things:F.HasMth (L2.KOf KX) mg "Shelf" "things" "Shelf.things" Pg.s_Shelf_things:=by
     refine' F.has_mth KX G ?aC_98 (F.has_cls KX G ?aC_98 ?pg_98 ?hd_98 ?po_98 ?sa_98) ?a_98 ?i_98 ?l_98 ?c_98 ?k_98;(case aC_98=>k_is);(case pg_98=>k_is);(case hd_98=>k_is);(case po_98=>k_is);(case sa_98=>k_is);(case a_98=>k_is);(case i_98=>k_is);(case l_98=>k_is);(case c_98=>k_is);(case k_98=>k_is)
   have hf_Wood___init__:F.HasMk (L2.KOf KX) mg "Wood" "Wood.__init__" Pg.s_Wood___init__ 1:=by
     refine' F.has_mk1 KX G ?aC_99 ?mk_99 ?kc_99 ?a_99 ?i_99 ?l_99 ?c_99 ?k_99 ?t_99;(case aC_99=>k_is);(case mk_99=>k_is);(case kc_99=>k_is);(case a_99=>k_is);(case i_99=>k_is);(case l_99=>k_is);(case c_99=>k_is);(case k_99=>k_is);(case t_99=>k_is)
   have hf__law_amount:F.HasDef (L2.KOf KX) mg "_law_amount" Pg.s__law_amount 0:=by
     refine' F.has_def KX G ?a_100 ?l_100 ?c_100 ?k_100;(case a_100=>k_is);(case l_100=>k_is);(case c_100=>k_is);(case k_100=>k_is)
   have hf__law_cell:F.HasDef (L2.KOf KX) mg "_law_cell" Pg.s__law_cell 0:=by
     refine' F.has_def KX G ?a_101 ?l_101 ?c_101 ?k_101;(case a_101=>k_is);(case l_101=>k_is);(case c_101=>k_is);(case k_101=>k_is)
   have hf_Shelf_hold:F.HasMth (L2.KOf KX) mg "Shelf" "hold" "Shelf.hold" Pg.s_Shelf_hold:=by
     refine' F.has_mth KX G ?aC_102 (F.has_cls KX G ?aC_102 ?pg_102 ?hd_102 ?po_102 ?sa_102) ?a_102 ?i_102 ?l_102 ?c_102 ?k_102;(case aC_102=>k_is);(case pg_102=>k_is);(case hd_102=>k_is);(case po_102=>k_is);(case sa_102=>k_is);(case a_102=>k_is);(case i_102=>k_is);(case l_102=>k_is);(case c_102=>k_is);(case k_102=>k_is)
   have hf_check_place:F.HasDef (L2.KOf KX) mg "check_place" Pg.s_check_place 0:=by
     refine' F.has_def KX G ?a_103 ?l_103 ?c_103 ?k_103;(case a_103=>k_is);(case l_103=>k_is);(case c_103=>k_is);(case k_103=>k_is)
   have hf_thing_at:F.HasDef (L2.KOf KX) mg "thing_at" Pg.s_thing_at 0:=by
     refine' F.has_def KX G ?a_104 ?l_104 ?c_104 ?k_104;(case a_104=>k_is);(case l_104=>k_is);(case c_104=>k_is);(case k_104=>k_is)
   have hf_at:F.HasDef (L2.KOf KX) mg "at" Pg.s_at 0:=by
     refine' F.has_def KX G ?a_105 ?l_105 ?c_105 ?k_105;(case a_105=>k_is);(case l_105=>k_is);(case c_105=>k_is);(case k_105=>k_is)
   have hf_Wood_turned:F.HasMth (L2.KOf KX) mg "Wood" "turned" "Wood.turned" Pg.s_Wood_turned:=by
     refine' F.has_mth KX G ?aC_106 (F.has_cls KX G ?aC_106 ?pg_106 ?hd_106 ?po_106 ?sa_106) ?a_106 ?i_106 ?l_106 ?c_106 ?k_106;(case aC_106=>k_is);(case pg_106=>k_is);(case hd_106=>k_is);(case po_106=>k_is);(case sa_106=>k_is);(case a_106=>k_is);(case i_106=>k_is);(case l_106=>k_is);(case c_106=>k_is);(case k_106=>k_is)
   have hf_parts:F.HasDef (L2.KOf KX) mg "parts" Pg.s_parts 0:=by
     refine' F.has_def KX G ?a_107 ?l_107 ?c_107 ?k_107;(case a_107=>k_is);(case l_107=>k_is);(case c_107=>k_is);(case k_107=>k_is)
   have hf_lifted_left:F.HasDef (L2.KOf KX) mg "lifted_left" Pg.s_lifted_left 0:=by
     refine' F.has_def KX G ?a_108 ?l_108 ?c_108 ?k_108;(case a_108=>k_is);(case l_108=>k_is);(case c_108=>k_is);(case k_108=>k_is)
   have hf_lifted_right:F.HasDef (L2.KOf KX) mg "lifted_right" Pg.s_lifted_right 0:=by
     refine' F.has_def KX G ?a_109 ?l_109 ?c_109 ?k_109;(case a_109=>k_is);(case l_109=>k_is);(case c_109=>k_is);(case k_109=>k_is)
   have hf_balanced:F.HasDef (L2.KOf KX) mg "balanced" Pg.s_balanced 0:=by
     refine' F.has_def KX G ?a_110 ?l_110 ?c_110 ?k_110;(case a_110=>k_is);(case l_110=>k_is);(case c_110=>k_is);(case k_110=>k_is)
   have hf_joined:F.HasDef (L2.KOf KX) mg "joined" Pg.s_joined 0:=by
     refine' F.has_def KX G ?a_111 ?l_111 ?c_111 ?k_111;(case a_111=>k_is);(case l_111=>k_is);(case c_111=>k_is);(case k_111=>k_is)
   have hf_laid_together:F.HasDef (L2.KOf KX) mg "laid_together" Pg.s_laid_together 0:=by
     refine' F.has_def KX G ?a_112 ?l_112 ?c_112 ?k_112;(case a_112=>k_is);(case l_112=>k_is);(case c_112=>k_is);(case k_112=>k_is)
   have hf_taken_out:F.HasDef (L2.KOf KX) mg "taken_out" Pg.s_taken_out 0:=by
     refine' F.has_def KX G ?a_113 ?l_113 ?c_113 ?k_113;(case a_113=>k_is);(case l_113=>k_is);(case c_113=>k_is);(case k_113=>k_is)
   have hf_out:F.HasDef (L2.KOf KX) mg "out" Pg.s_out 0:=by
     refine' F.has_def KX G ?a_114 ?l_114 ?c_114 ?k_114;(case a_114=>k_is);(case l_114=>k_is);(case c_114=>k_is);(case k_114=>k_is)
   have hf_Shelf_out:F.HasMth (L2.KOf KX) mg "Shelf" "out" "Shelf.out" Pg.s_Shelf_out:=by
     refine' F.has_mth KX G ?aC_115 (F.has_cls KX G ?aC_115 ?pg_115 ?hd_115 ?po_115 ?sa_115) ?a_115 ?i_115 ?l_115 ?c_115 ?k_115;(case aC_115=>k_is);(case pg_115=>k_is);(case hd_115=>k_is);(case po_115=>k_is);(case sa_115=>k_is);(case a_115=>k_is);(case i_115=>k_is);(case l_115=>k_is);(case c_115=>k_is);(case k_115=>k_is)
   have hf_put_in:F.HasDef (L2.KOf KX) mg "put_in" Pg.s_put_in 0:=by
     refine' F.has_def KX G ?a_116 ?l_116 ?c_116 ?k_116;(case a_116=>k_is);(case l_116=>k_is);(case c_116=>k_is);(case k_116=>k_is)
   have hf_put:F.HasDef (L2.KOf KX) mg "put" Pg.s_put 0:=by
     refine' F.has_def KX G ?a_117 ?l_117 ?c_117 ?k_117;(case a_117=>k_is);(case l_117=>k_is);(case c_117=>k_is);(case k_117=>k_is)
   have hf_Shelf_put:F.HasMth (L2.KOf KX) mg "Shelf" "put" "Shelf.put" Pg.s_Shelf_put:=by
     refine' F.has_mth KX G ?aC_118 (F.has_cls KX G ?aC_118 ?pg_118 ?hd_118 ?po_118 ?sa_118) ?a_118 ?i_118 ?l_118 ?c_118 ?k_118;(case aC_118=>k_is);(case pg_118=>k_is);(case hd_118=>k_is);(case po_118=>k_is);(case sa_118=>k_is);(case a_118=>k_is);(case i_118=>k_is);(case l_118=>k_is);(case c_118=>k_is);(case k_118=>k_is)
   have hf_given:F.HasDef (L2.KOf KX) mg "given" Pg.s_given 0:=by
     refine' F.has_def KX G ?a_119 ?l_119 ?c_119 ?k_119;(case a_119=>k_is);(case l_119=>k_is);(case c_119=>k_is);(case k_119=>k_is)
   have hf_swapped:F.HasDef (L2.KOf KX) mg "swapped" Pg.s_swapped 0:=by
     refine' F.has_def KX G ?a_120 ?l_120 ?c_120 ?k_120;(case a_120=>k_is);(case l_120=>k_is);(case c_120=>k_is);(case k_120=>k_is)
   have hf_Shelf_swap:F.HasMth (L2.KOf KX) mg "Shelf" "swap" "Shelf.swap" Pg.s_Shelf_swap:=by
     refine' F.has_mth KX G ?aC_121 (F.has_cls KX G ?aC_121 ?pg_121 ?hd_121 ?po_121 ?sa_121) ?a_121 ?i_121 ?l_121 ?c_121 ?k_121;(case aC_121=>k_is);(case pg_121=>k_is);(case hd_121=>k_is);(case po_121=>k_is);(case sa_121=>k_is);(case a_121=>k_is);(case i_121=>k_is);(case l_121=>k_is);(case c_121=>k_is);(case k_121=>k_is)
   have hf_check_stretch:F.HasDef (L2.KOf KX) mg "check_stretch" Pg.s_check_stretch 0:=by
     refine' F.has_def KX G ?a_122 ?l_122 ?c_122 ?k_122;(case a_122=>k_is);(case l_122=>k_is);(case c_122=>k_is);(case k_122=>k_is)
   have hf_cut_ahead:F.HasDef (L2.KOf KX) mg "cut_ahead" Pg.s_cut_ahead 0:=by
     refine' F.has_def KX G ?a_123 ?l_123 ?c_123 ?k_123;(case a_123=>k_is);(case l_123=>k_is);(case c_123=>k_is);(case k_123=>k_is)
   have hf_turned_part:F.HasDef (L2.KOf KX) mg "turned_part" Pg.s_turned_part 0:=by
     refine' F.has_def KX G ?a_124 ?l_124 ?c_124 ?k_124;(case a_124=>k_is);(case l_124=>k_is);(case c_124=>k_is);(case k_124=>k_is)
   have hf_Shelf_turned:F.HasMth (L2.KOf KX) mg "Shelf" "turned" "Shelf.turned" Pg.s_Shelf_turned:=by
     refine' F.has_mth KX G ?aC_125 (F.has_cls KX G ?aC_125 ?pg_125 ?hd_125 ?po_125 ?sa_125) ?a_125 ?i_125 ?l_125 ?c_125 ?k_125;(case aC_125=>k_is);(case pg_125=>k_is);(case hd_125=>k_is);(case po_125=>k_is);(case sa_125=>k_is);(case a_125=>k_is);(case i_125=>k_is);(case l_125=>k_is);(case c_125=>k_is);(case k_125=>k_is)
   have hf__law_thing:F.HasDef (L2.KOf KX) mg "_law_thing" Pg.s__law_thing 0:=by
     refine' F.has_def KX G ?a_126 ?l_126 ?c_126 ?k_126;(case a_126=>k_is);(case l_126=>k_is);(case c_126=>k_is);(case k_126=>k_is)
   have hf__law_deed:F.HasDef (L2.KOf KX) mg "_law_deed" Pg.s__law_deed 0:=by
     refine' F.has_def KX G ?a_127 ?l_127 ?c_127 ?k_127;(case a_127=>k_is);(case l_127=>k_is);(case c_127=>k_is);(case k_127=>k_is)
   have hf__law_drawn:F.HasDef (L2.KOf KX) mg "_law_drawn" Pg.s__law_drawn 0:=by
     refine' F.has_def KX G ?a_128 ?l_128 ?c_128 ?k_128;(case a_128=>k_is);(case l_128=>k_is);(case c_128=>k_is);(case k_128=>k_is)
   have hf_Shelf_make:F.HasMth (L2.KOf KX) mg "Shelf" "make" "Shelf.make" Pg.s_Shelf_make:=by
     refine' F.has_mth KX G ?aC_129 (F.has_cls KX G ?aC_129 ?pg_129 ?hd_129 ?po_129 ?sa_129) ?a_129 ?i_129 ?l_129 ?c_129 ?k_129;(case aC_129=>k_is);(case pg_129=>k_is);(case hd_129=>k_is);(case po_129=>k_is);(case sa_129=>k_is);(case a_129=>k_is);(case i_129=>k_is);(case l_129=>k_is);(case c_129=>k_is);(case k_129=>k_is)
   have hf_laid:F.HasDef (L2.KOf KX) mg "laid" Pg.s_laid 0:=by
     refine' F.has_def KX G ?a_130 ?l_130 ?c_130 ?k_130;(case a_130=>k_is);(case l_130=>k_is);(case c_130=>k_is);(case k_130=>k_is)
   have hf_Shelf_laid:F.HasMth (L2.KOf KX) mg "Shelf" "laid" "Shelf.laid" Pg.s_Shelf_laid:=by
     refine' F.has_mth KX G ?aC_131 (F.has_cls KX G ?aC_131 ?pg_131 ?hd_131 ?po_131 ?sa_131) ?a_131 ?i_131 ?l_131 ?c_131 ?k_131;(case aC_131=>k_is);(case pg_131=>k_is);(case hd_131=>k_is);(case po_131=>k_is);(case sa_131=>k_is);(case a_131=>k_is);(case i_131=>k_is);(case l_131=>k_is);(case c_131=>k_is);(case k_131=>k_is)
   have hf__law_kind_of:F.HasDef (L2.KOf KX) mg "_law_kind_of" Pg.s__law_kind_of 0:=by
     refine' F.has_def KX G ?a_132 ?l_132 ?c_132 ?k_132;(case a_132=>k_is);(case l_132=>k_is);(case c_132=>k_is);(case k_132=>k_is)
   have hf__law_more:F.HasDef (L2.KOf KX) mg "_law_more" Pg.s__law_more 0:=by
     refine' F.has_def KX G ?a_133 ?l_133 ?c_133 ?k_133;(case a_133=>k_is);(case l_133=>k_is);(case c_133=>k_is);(case k_133=>k_is)
   have hf__law_not_made:F.HasDef (L2.KOf KX) mg "_law_not_made" Pg.s__law_not_made 0:=by
     refine' F.has_def KX G ?a_134 ?l_134 ?c_134 ?k_134;(case a_134=>k_is);(case l_134=>k_is);(case c_134=>k_is);(case k_134=>k_is)
   have hf__law_full:F.HasDef (L2.KOf KX) mg "_law_full" Pg.s__law_full 0:=by
     refine' F.has_def KX G ?a_135 ?l_135 ?c_135 ?k_135;(case a_135=>k_is);(case l_135=>k_is);(case c_135=>k_is);(case k_135=>k_is)
   have hf_cut:F.HasDef (L2.KOf KX) mg "cut" Pg.s_cut 0:=by
     refine' F.has_def KX G ?a_136 ?l_136 ?c_136 ?k_136;(case a_136=>k_is);(case l_136=>k_is);(case c_136=>k_is);(case k_136=>k_is)
   have hf_Shelf_cut:F.HasMth (L2.KOf KX) mg "Shelf" "cut" "Shelf.cut" Pg.s_Shelf_cut:=by
     refine' F.has_mth KX G ?aC_137 (F.has_cls KX G ?aC_137 ?pg_137 ?hd_137 ?po_137 ?sa_137) ?a_137 ?i_137 ?l_137 ?c_137 ?k_137;(case aC_137=>k_is);(case pg_137=>k_is);(case hd_137=>k_is);(case po_137=>k_is);(case sa_137=>k_is);(case a_137=>k_is);(case i_137=>k_is);(case l_137=>k_is);(case c_137=>k_is);(case k_137=>k_is)
   have hf__law_bad:F.HasDef (L2.KOf KX) mg "_law_bad" Pg.s__law_bad 0:=by
     refine' F.has_def KX G ?a_138 ?l_138 ?c_138 ?k_138;(case a_138=>k_is);(case l_138=>k_is);(case c_138=>k_is);(case k_138=>k_is)
   have hf__law_refused:F.HasDef (L2.KOf KX) mg "_law_refused" Pg.s__law_refused 0:=by
     refine' F.has_def KX G ?a_139 ?l_139 ?c_139 ?k_139;(case a_139=>k_is);(case l_139=>k_is);(case c_139=>k_is);(case k_139=>k_is)
   have hf_law:F.HasDef (L2.KOf KX) mg "law" Pg.s_law 0:=by
     refine' F.has_def KX G ?a_140 ?l_140 ?c_140 ?k_140;(case a_140=>k_is);(case l_140=>k_is);(case c_140=>k_is);(case k_140=>k_is)
   obtain ⟨fa',fd,hm,hb,hF⟩:=Pg.law_all (P:=(PySem.Challenge.rw_ownshelf_k36_deeds_refused).prog) (w:=w) ⟨hb_ValueError,hb_abs,hb_int,hb_isinstance,hb_len,hb_list,hb_max,hb_range,hb_sum,hi_ABOUT,hi_AHEAD,hi_BACK,hi_BEHIND,hi_HEIGHT,hi_LEFT,hi_MIDDLE,hi_MOST_THINGS,hi_RIGHT,hi_SIZE,hi_THING,hi_TOTAL,hi_TURNED,hw_Shelf_done,hw_Shelf_held,hw_Shelf_wood,hw_Wood_adding,hw_Wood_nodes_made,hv_Changed,hv_NoBalance,hv_NoMore,hv_NoName,hv_NoNumber,hv_NoPlace,hv_NoRow,hv_NoSum,hv_NoThing,hv_NoWay,hv_TooMany,hx_NoPlace,hx_TooMany,hup,hal_cut_rows,hal_laid_rows,hal_out_rows,hal_put_rows,hf_Wood_numbered,hf_check_room,hf_height,hf_height_above,hf_in_balance,hf_size,hf_size_above,hf_back,hf_backward_sum,hf_total,hf_onward_sum,hf_sums_above,hf_Wood_node,hf_built,hf_make_of,hf_Shelf___init__,hf_Shelf_deeds,hf_seen,hf_gather,hf_things_of,hf_Shelf_things,hf_Wood___init__,hf__law_amount,hf__law_cell,hf_Shelf_hold,hf_check_place,hf_thing_at,hf_at,hf_Wood_turned,hf_parts,hf_lifted_left,hf_lifted_right,hf_balanced,hf_joined,hf_laid_together,hf_taken_out,hf_out,hf_Shelf_out,hf_put_in,hf_put,hf_Shelf_put,hf_given,hf_swapped,hf_Shelf_swap,hf_check_stretch,hf_cut_ahead,hf_turned_part,hf_Shelf_turned,hf__law_thing,hf__law_deed,hf__law_drawn,hf_Shelf_make,hf_laid,hf_Shelf_laid,hf__law_kind_of,hf__law_more,hf__law_not_made,hf__law_full,hf_cut,hf_Shelf_cut,hf__law_bad,hf__law_refused,hf_law⟩
   have e:=hmg.symm.trans hm
   cases e
   exact ⟨fd,hb,fun base _ _=>hF base⟩

