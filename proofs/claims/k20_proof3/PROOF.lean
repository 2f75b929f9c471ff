import PyProof.Rows.All
import Wide.All
import OpenK.AllK
import Wide.FinOn
import Lean
import PyProof.EqAt
import PyProof.EqKinds
import PyProof.TupleCall
import PyProof.DictWalks
import PyProof.ExcAttrAll.ValueError
import PyProof.ExcBaseAll.ValueError
import PyProof.ZipIter
import PyProof.SumWalk
import PyProof.Rows.SortShellK
import PyProof.Rows.SortStr
import PyProof.DictKinds
import PyProof.Rows.CallKwBuiltin
import PySem.Challenge.RW_ownshelf_k20_places_in_a_set
set_option Elab.async false
set_option linter.all false
set_option maxRecDepth 100000
noncomputable section
namespace L2
open PySem PySem.Spec PyProof.Rows

abbrev Key:=Sum Int Str
def keyIs:Key→Value→Bool
 | .inl k,v=>Value.isInt k v
 | .inr x,v=>Value.isStrOf x v
def keyH (w:World):Key→Int
 | .inl k=>hashInt k
 | .inr x=>hashStr w x
theorem zby:∀{k:Key}{v:Value},keyIs k v=true→(∃i t,k=Sum.inl i∧v=Value.int i t)∨(∃x t,k=Sum.inr x∧v=Value.str x t)
 | .inl i,v,h=>by
   obtain ⟨t,e⟩:=Value.isInt_shape (k:=i) (v:=v) h
   exact .inl ⟨i,t,rfl,e⟩
 | .inr x,v,h=>by
   obtain ⟨t,e⟩:=Value.isStrOf_shape (x:=x) (v:=v) h
   exact .inr ⟨x,t,rfl,e⟩
theorem key_ll (a b:Int):decide ((Sum.inl a:Key)=Sum.inl b)=(a == b):=by
 by_cases e:a=b
 · subst e;simp
 · have h:¬ (Sum.inl a:Key)=Sum.inl b:=fun q=>e (Sum.inl.inj q)
   rw [decide_eq_false h]
   exact (beq_eq_false_iff_ne.mpr e).symm
theorem key_rr (a b:Str):decide ((Sum.inr a:Key)=Sum.inr b)=decide (a=b):=by
 by_cases e:a=b
 · subst e;simp
 · have h:¬ (Sum.inr a:Key)=Sum.inr b:=fun q=>e (Sum.inr.inj q)
   rw [decide_eq_false h,decide_eq_false e]
theorem key_lr (a:Int) (b:Str):decide ((Sum.inl a:Key)=Sum.inr b)=false:=decide_eq_false (fun q=>nomatch q)
theorem key_rl (a:Str) (b:Int):decide ((Sum.inr a:Key)=Sum.inl b)=false:=decide_eq_false (fun q=>nomatch q)

def zvz (prog:Program) (w:World):PySem.KeyKind prog w Key where
 is:=keyIs
 hash:=keyH w
 inj:=fun v a b ha hb=>by
   rcases zby ha with ⟨i,t,rfl,rfl⟩ | ⟨x,t,rfl,rfl⟩
   · rcases zby hb with ⟨j,u,rfl,e⟩ | ⟨y,u,rfl,e⟩
     · injection e with e1 _;rw [e1]
     · exact nomatch e
   · rcases zby hb with ⟨j,u,rfl,e⟩ | ⟨y,u,rfl,e⟩
     · exact nomatch e
     · injection e with e1 _;rw [e1]
 byValue:=fun k v h=>by
   rcases zby h with ⟨i,t,rfl,rfl⟩ | ⟨x,t,rfl,rfl⟩ <;> rfl
 pyHash:=fun hv h=>by
   rcases zby hv with ⟨i,t,rfl,rfl⟩ | ⟨x,t,rfl,rfl⟩
   · exact wpAny_pyHash_int h
   · exact wpAny_pyHash_str h
 eqBool:=fun hu hv h=>by
   rcases zby hu with ⟨i,t,rfl,rfl⟩ | ⟨x,t,rfl,rfl⟩
   · rcases zby hv with ⟨j,u,rfl,rfl⟩ | ⟨y,u,rfl,rfl⟩
     · rw [key_ll] at h;exact wpAny_eqBool_int h
     · rw [key_lr] at h;exact SeqAt.EqAt.int_str i t y u _ _ _ _ h
   · rcases zby hv with ⟨j,u,rfl,rfl⟩ | ⟨y,u,rfl,rfl⟩
     · rw [key_rl] at h;exact SeqAt.EqAt.str_int x t j u _ _ _ _ h
     · rw [key_rr] at h;exact wpAny_eqBool_str h
 «strs»:=fun k x t v h=>by
   rcases zby h with ⟨i,u,rfl,e⟩ | ⟨y,u,rfl,e⟩
   · exact nomatch e
   · injection e with e1 _
     subst e1
     cases v <;> rfl

end L2

namespace L2
open PySem PySem.Spec PyProof.Rows

inductive V where
 | non | bl (b:Bool) | int (i:Int) | str (x:Str) | byt (b:Array UInt8) | flt (b:UInt64) | ref (a:Addr) | ty (n:String)
 deriving DecidableEq

def RelV:V→Value→Prop
 | .non,u=>u=Value.none
 | .bl b,u=>u=Value.bool b
 | .int i,u=>∃t,u=Value.int i t
 | .str x,u=>∃t,u=Value.str x t
 | .byt b,u=>∃t,u=Value.bytes b t
 | .flt b,u=>∃t,u=Value.float b t
 | .ref a,u=>u=Value.ref a
 | .ty n,u=>u=Value.type n

abbrev Vals:List V→List Value→Prop:=Paired RelV
theorem Vals.length {xs:List V}{us:List Value} (r:Vals xs us):xs.length=us.length:=Paired.length r
theorem Vals.get:∀{xs:List V}{us:List Value}{i:Nat}{x:V},Vals xs us→xs[i]? = some x→∃u,us[i]? = some u∧RelV x u
 | _,_,_,_,.nil,e=>by simp at e
 | _,_,0,_,.cons r _,e=>by simp at e;subst e;exact ⟨_,rfl,r⟩
 | _,_,i + 1,x,.cons _ t,e=>by
   obtain ⟨u,h1,h2⟩:=Vals.get (i:=i) (x:=x) t (by simpa using e)
   exact ⟨u,by simpa using h1,h2⟩
theorem Vals.append:∀{xs ys:List V}{us ws:List Value},Vals xs us→Vals ys ws→Vals (xs++ys) (us++ws)
 | _,_,_,_,.nil,s=>s
 | _,_,_,_,.cons r t,s=>.cons r (Vals.append t s)
theorem Vals.take:∀{xs:List V}{us:List Value} (n:Nat),Vals xs us→Vals (xs.take n) (us.take n)
 | _,_,0,_=>.nil
 | _,_,_ + 1,.nil=>.nil
 | _,_,n + 1,.cons r t=>.cons r (Vals.take n t)
theorem Vals.drop:∀{xs:List V}{us:List Value} (n:Nat),Vals xs us→Vals (xs.drop n) (us.drop n)
 | _,_,0,r=>r
 | _,_,_ + 1,.nil=>.nil
 | _,_,n + 1,.cons _ t=>Vals.drop n t
def RelO:Option V→Option Value→Prop
 | some v,some u=>RelV v u
 | none,none=>True
 | _,_=>False
def KV {κ:Type}:List (κ×V)→List (κ×Value)→Prop:=Paired fun (p:κ×V) (q:κ×Value)=>p.1=q.1∧RelV p.2 q.2

def kV:Key→V
 | .inl i=>.int i
 | .inr x=>.str x

inductive HO where
   | lst (xs:List V)
   | tup (xs:List V)
   | dK (kvs:List (Key×V)) | dT (kvs:List (List Key×V))
   | set (S:Int→Bool) (n:Nat)
   | ins (C dx:Addr) (fs:List (Str×V))
   | own (x:Addr)
   | xd (fs:List (Str×V))
   | met (f x:Addr)
   | rng (lo hi:Int)
   | frz (o:Obj) (u:HO)
   | tbl (ps:Array Value)
   | ext (φ:Heap→Prop)

abbrev Hp:=Addr→Option HO
def upd (H:Hp) (a:Addr) (o:HO):Hp:=fun b=>if b=a then some o else H b
theorem zbj {H:Hp}{a:Addr}{o:HO}:upd H a o a=some o:=by unfold upd;rw [if_pos rfl]
theorem zba {H:Hp}{a b:Addr}{o:HO} (h:b≠a):upd H a o b=H b:=by unfold upd;rw [if_neg h]
theorem zbk {H:Hp}{a b:Addr}{o:HO} (h:H a=some o) (h':H b=none):a≠b:=by
 intro e;subst e;rw [h] at h';cases h'

section
variable (P:Program) (w:World)
def ObjOk (H:Hp) (h:Heap) (a:Addr):HO→Prop
 | .lst xs=>xs.length≤sizeLine∧∃(its:List Value) (n:Nat),Vals xs its∧h.get? a=some { cls:=.type "list",data:=.seq its.toArray n }
 | .tup xs=>xs.length≤sizeLine∧∃its:List Value,Vals xs its∧IsTup h a its.toArray
 | .dK kvs=>kvs.length≤sizeLine∧(a == sysModules)=false∧∃vs,KV kvs vs∧h.DictOf (zvz P w) a vs
 | .dT kvs=>kvs.length≤sizeLine∧(a == sysModules)=false∧∃xs:List (List Key×Addr×Value),
     Paired (fun (p:List Key×V) (q:List Key×Addr×Value)=>p.1=q.1∧H q.2.1=some (.tup (p.1.map kV))∧RelV p.2 q.2.2) kvs xs ∧
     ∃o es ep,h.get? a=some o∧o.ExactDict∧o.data=.dict es ep∧es.toList=xs.map (entryOfKey (tupleKind (zvz P w)))∧(xs.map (·.1)).Nodup
 | .set S n=>h.SetOf (intKind P w) a S n
 | .ins C dx fs=>H dx=some (.own a)∧fs.length≤1000∧dx≠a∧h.get? a=some (PySem.W.instObj C dx) ∧
     ∃mA,h.Ns1 dx mA∧(∀f,RelO (fs.lookup f) (mA f))∧PySem.Within mA (fs.map (·.1))
 | .own _=>∃o,h.get? a=some o
 | .xd fs=>∃mA,h.Ns1 a mA∧∀f,RelO (fs.lookup f) (mA f)
 | .rng lo hi=>∃t u v,h.get? a=some { cls:=.type "range",data:=.fields #[.int lo t,.int hi u,.int 1 v] }
 | .frz o u=>h.get? a=some o∧ObjOk H h a u
 | .tbl ps=>h.get? a=some { cls:=.none,data:=.fields ps }
 | .met f x=>h.get? a=some (PySem.W.methodObj (.ref f) (.ref x))
 | .ext φ=>φ h∧(∃o,h.get? a=some o)∧∀h1 h2:Heap,φ h1→(∀o,h1.get? a=some o→h2.get? a=some o)→φ h2
def HOk (H:Hp) (h:Heap):Prop:=∀a o,H a=some o→ObjOk P w H h a o
end

section
variable {P:Program}{w:World}{H H':Hp}{h h':Heap}{a:Addr}{o:HO}
theorem ObjOk.lt (x:ObjOk P w H h a o):a < h.objs.size:=by
 cases o with
 | lst xs=>obtain ⟨_,_,_,_,e⟩:=x;exact Heap.lt_size e
 | tup xs=>obtain ⟨_,_,_,p⟩:=x;exact p.lt
 | dK kvs=>obtain ⟨_,_,_,_,o,_,_,e,_⟩:=x;exact Heap.lt_size e
 | dT kvs=>obtain ⟨_,_,_,_,o,_,_,e,_⟩:=x;exact Heap.lt_size e
 | set S n=>obtain ⟨o,_,_,_,e,_⟩:=x;exact Heap.lt_size e
 | ins C dx fs=>obtain ⟨_,_,_,e,_⟩:=x;exact Heap.lt_size e
 | own y=>obtain ⟨_,e⟩:=x;exact Heap.lt_size e
 | xd fs=>obtain ⟨_,⟨_,_,_,e,_⟩,_⟩:=x;exact Heap.lt_size e
 | rng lo hi=>obtain ⟨_,_,_,e⟩:=x;exact Heap.lt_size e
 | frz ob u=>obtain ⟨e,_⟩:=x;exact Heap.lt_size e
 | tbl ps=>exact Heap.lt_size (show h.get? a=some _ from x)
 | met f y=>exact Heap.lt_size (show h.get? a=some _ from x)
 | ext φ=>obtain ⟨_,⟨_,e⟩,_⟩:=x;exact Heap.lt_size e
theorem Paired.mapP {α β:Type}{F G:α→β→Prop}:∀{l₁:List α}{l₂:List β},Paired F l₁ l₂→(∀a b,F a b→G a b)→Paired G l₁ l₂
 | _,_,.nil,_=>.nil
 | _,_,.cons r t,f=>.cons (f _ _ r) (Paired.mapP t f)
theorem ObjOk.stay (x:ObjOk P w H h a o) (k:∀b u,(b=a∨H b=some (.own a))→h.get? b=some u→h'.get? b=some u)
   (ho:∀b,H b=some (.own a)→H' b=some (.own a)) (ht:∀b xs,H b=some (.tup xs)→H' b=some (.tup xs)):ObjOk P w H' h' a o:=by
 induction o with
 | lst xs=>obtain ⟨z,its,n,r,e⟩:=x;exact ⟨z,its,n,r,k _ _ (.inl rfl) e⟩
 | tup xs=>obtain ⟨z,its,r,ob,e,c⟩:=x;exact ⟨z,its,r,ob,k _ _ (.inl rfl) e,c⟩
 | dK kvs=>obtain ⟨z,y,vs,r,ob,es,ep,e,c⟩:=x;exact ⟨z,y,vs,r,ob,es,ep,k _ _ (.inl rfl) e,c⟩
 | dT kvs =>
   obtain ⟨z,y,xs,r,ob,es,ep,e,c⟩:=x
   exact ⟨z,y,xs,Paired.mapP r fun p q z=>⟨z.1,ht _ _ z.2.1,z.2.2⟩,ob,es,ep,k _ _ (.inl rfl) e,c⟩
 | set S n=>obtain ⟨ob,es,ep,t,e,c⟩:=x;exact ⟨ob,es,ep,t,k _ _ (.inl rfl) e,c⟩
 | ins C dx fs =>
   obtain ⟨d,z,ne,e,mA,⟨od,es,ep,e2,c⟩,r⟩:=x
   exact ⟨ho _ d,z,ne,k _ _ (.inl rfl) e,mA,⟨od,es,ep,k _ _ (.inr d) e2,c⟩,r⟩
 | own y=>obtain ⟨ob,e⟩:=x;exact ⟨ob,k _ _ (.inl rfl) e⟩
 | xd fs=>obtain ⟨mA,⟨od,es,ep,e,c⟩,r⟩:=x;exact ⟨mA,⟨od,es,ep,k _ _ (.inl rfl) e,c⟩,r⟩
 | rng lo hi=>obtain ⟨t,u,v,e⟩:=x;exact ⟨t,u,v,k _ _ (.inl rfl) e⟩
 | frz ob u ih=>obtain ⟨e,q⟩:=x;exact ⟨k _ _ (.inl rfl) e,ih q⟩
 | tbl ps =>
   have e:h.get? a=some { cls:=.none,data:=.fields ps }:=x
   show h'.get? a=some { cls:=.none,data:=.fields ps }
   exact k a _ (.inl rfl) e
 | met f y =>
   have e:h.get? a=some (PySem.W.methodObj (.ref f) (.ref y)):=x
   show h'.get? a=some (PySem.W.methodObj (.ref f) (.ref y))
   exact k a _ (.inl rfl) e
 | ext φ=>obtain ⟨p,⟨o,e⟩,st⟩:=x;exact ⟨st _ _ p fun o q=>k _ _ (.inl rfl) q,⟨o,k _ _ (.inl rfl) e⟩,st⟩
theorem HOk.lt (x:HOk P w H h) (e:H a=some o):a < h.objs.size:=(x a o e).lt
theorem HOk.fresh (x:HOk P w H h) (e:h.objs.size≤a):H a=none:=by
 cases q:H a with
 | none=>rfl
 | some u=>exact absurd (Nat.lt_of_lt_of_le (x.lt q) e) (Nat.lt_irrefl _)
theorem HOk.kept (x:HOk P w H h) (k:∀b u,h.get? b=some u→h'.get? b=some u):HOk P w H h':=fun a o e =>
 (x a o e).stay (fun b u _ q=>k b u q) (fun _ q=>q) fun _ _ q=>q
theorem HOk.laid (x:HOk P w H h) (k:∀b u,h.get? b=some u→h'.get? b=some u) (hp:h.objs.size≤a) (new:ObjOk P w (upd H a o) h' a o):HOk P w (upd H a o) h':=fun b u e=>by
 have hn:=x.fresh hp
 by_cases hb:b=a
 · subst hb;rw [zbj] at e;cases e;exact new
 · rw [zba hb] at e
   exact (x b u e).stay (fun c v _ q=>k c v q) (fun c q=>by rw [zba (zbk q hn)];exact q) fun c xs q=>by rw [zba (zbk q hn)];exact q
end

def Rd (H:Hp) (a:Addr) (u:HO):Prop:=H a=some u∨∃o,H a=some (.frz o u)
theorem Rd.ok {P:Program}{w:World}{H:Hp}{h:Heap}{a:Addr}{u:HO} (r:Rd H a u) (x:HOk P w H h):ObjOk P w H h a u:=by
 rcases r with r | ⟨o,r⟩
 · exact x a u r
 · obtain ⟨_,q⟩:=x a _ r
   exact q
def Mut:Option HO→Prop
 | some (.lst _)=>True
 | some (.dK _)=>True
 | some (.dT _)=>True
 | some (.set _ _)=>True
 | some (.ins _ _ _)=>True
 | some (.ext _)=>True
 | _=>False
section
variable {P:Program}{w:World}{H:Hp}{h h':Heap}{x e:Addr}{o':HO}
theorem HOk.write (ok:HOk P w H h) (mu:Mut (H x)) (he:e=x∨H e=some (.own x)) (k:∀b u,b≠e→h.get? b=some u→h'.get? b=some u) (heo:∃u,h'.get? e=some u)
   (new:ObjOk P w (upd H x o') h' x o'):HOk P w (upd H x o') h':=fun b u q=>by
 have nown:∀c y,H c=some (.own y)→c≠x:=fun c y r z=>by subst z;rw [r] at mu;exact mu
 have ntup:∀c xs,H c=some (.tup xs)→c≠x:=fun c xs r z=>by subst z;rw [r] at mu;exact mu
 by_cases hb:b=x
 · subst hb;rw [zbj] at q;cases q;exact new
 · rw [zba hb] at q
   by_cases hbe:b=e
   · have q':H b=some (.own x):=by
       rcases he with z | z
       · exact absurd (hbe.trans z) hb
       · rw [hbe];exact z
     rw [q] at q';cases q'
     obtain ⟨v,hv⟩:=heo
     exact ⟨v,by rw [hbe];exact hv⟩
   · refine (ok b u q).stay (fun c v hc r=>k c v ?_ r) (fun c r=>by rw [zba (nown c b r)];exact r) fun c xs r=>by rw [zba (ntup c xs r)];exact r
     rcases hc with rfl | hc
     · exact hbe
     · rintro rfl
       rcases he with z | z
       · exact nown c b hc z
       · rw [hc] at z;cases z;exact hb rfl
end

structure Un (fs ex:List Addr) (H H':Hp) (h h':Heap):Prop where
 keep:∀b o,h.get? b=some o→H b=none→b∉fs→b∉ex→h'.get? b=some o
 slot:∀b o,h.get? b=some o→H b=none→b∈fs→b∉ex→∃sl,h'.get? b=some { o with slots:=sl }
 free:∀b o,h.get? b=some o→H b=none→b∉ex→H' b=none
 there:∀b o,h.get? b=some o→b∉ex→∃o',h'.get? b=some o'
 tups:∀b xs,H b=some (.tup xs)→H' b=some (.tup xs)
 frzs:∀b o u,H b=some (.frz o u)→H' b=some (.frz o u)
 tbls:∀b ps,H b=some (.tbl ps)→∃more,H' b=some (.tbl (ps++more))
section
variable {fs fs' ex ex':List Addr}{H H1 H2:Hp}{h h1 h2 h':Heap}{a x e:Addr}{o:HO}
theorem Un.any (u:Un fs ex H H1 h h1) {b:Addr}{ob:Obj} (q:h.get? b=some ob) (n:H b=none) (hx:b∉ex):∃sl,h1.get? b=some { ob with slots:=sl }:=by
 by_cases hb:b∈fs
 · exact u.slot b ob q n hb hx
 · exact ⟨ob.slots,u.keep b ob q n hb hx⟩
theorem Un.kept (k:∀b u,h.get? b=some u→h'.get? b=some u):Un fs ex H H h h' :=
 ⟨fun b ob q _ _ _=>k b ob q,fun b ob q _ _ _=>⟨ob.slots,k b ob q⟩,fun _ _ _ n _=>n,fun b ob q _=>⟨ob,k b ob q⟩,fun _ _ q=>q,fun _ _ _ q=>q,fun _ ps q=>⟨#[],by rw [q];simp⟩⟩
theorem Un.refl:Un fs ex H H h h:=Un.kept fun _ _ q=>q
theorem Un.laid (k:∀b u,h.get? b=some u→h'.get? b=some u) (hp:h.objs.size≤a) (hn:H a=none):Un fs ex H (upd H a o) h h' where
 keep:=fun b u q _ _ _=>k b u q
 slot:=fun b u q _ _ _=>⟨u.slots,k b u q⟩
 free:=fun b u q n _=>by rw [zba (Nat.ne_of_lt (Nat.lt_of_lt_of_le (Heap.lt_size q) hp))];exact n
 there:=fun b u q _=>⟨u,k b u q⟩
 tups:=fun b xs q=>by rw [zba (zbk q hn)];exact q
 frzs:=fun b u xs q=>by rw [zba (zbk q hn)];exact q
 tbls:=fun b ps q=>⟨#[],by rw [zba (zbk q hn),q];simp⟩
theorem Un.write (mu:Mut (H x)) (he:e=x∨H e=some (.own x)) (k:∀b u,b≠e→h.get? b=some u→h'.get? b=some u) (heo:∃u,h'.get? e=some u):Un fs ex H (upd H x o) h h':=by
 have hx:∀b,H b=none→b≠x:=fun b n z=>by subst z;rw [n] at mu;exact mu
 have hb:∀b,H b=none→b≠e:=fun b n z=>by
   subst z
   rcases he with r | r
   · exact hx b n r
   · rw [n] at r;cases r
 have hm:∀b u,H b=some u→¬ Mut (some u)→b≠x:=fun b u q nm z=>by subst z;rw [q] at mu;exact nm mu
 refine ⟨fun b u q n _ _=>k b u (hb b n) q,fun b u q n _ _=>⟨u.slots,k b u (hb b n) q⟩,fun b u q n _=>by rw [zba (hx b n)];exact n,fun b u q _=>?_,
   fun b xs q=>by rw [zba (hm b _ q fun z=>z)];exact q,fun b u xs q=>by rw [zba (hm b _ q fun z=>z)];exact q,fun b ps q=>⟨#[],by rw [zba (hm b _ q fun z=>z),q];simp⟩⟩
 by_cases hbe:b=e
 · subst hbe;exact heo
 · exact ⟨u,k b u hbe q⟩
end

def trk (h:Heap) (H:Hp):List Addr:=(List.range h.objs.size).filter fun a=>(H a).isSome
def hidT (h:Heap) (H:Hp):Heap:=PySem.W.hideAll h (trk h H)
theorem zwn (h:Heap) (H:Hp):(hidT h H).objs.size=h.objs.size:=PySem.W.hideAll_size _ _
theorem zme {h:Heap}{H:Hp}{b:Addr}{o:Obj} (e:h.get? b=some o) (n:H b=none):(hidT h H).get? b=some o :=
 PySem.W.hideAll_get _ e fun hm=>by
   have q:(H b).isSome=true:=(List.mem_filter.mp hm).2
   rw [n] at q;simp at q
theorem of_hidT {h:Heap}{H:Hp}{b:Addr}{o:Obj} (e:(hidT h H).get? b=some o):h.get? b=some o∧H b=none:=by
 have e':h.get? b=some o:=PySem.W.of_hideAll (trk h H) e
 refine ⟨e',?_⟩
 cases q:H b with
 | none=>rfl
 | some x =>
   have hm:b∈trk h H:=List.mem_filter.mpr ⟨List.mem_range.mpr (Heap.lt_size e'),by simp [q]⟩
   have z:(hidT h H).get? b=none:=PySem.W.hideAll_none (trk h H) hm
   rw [z] at e;cases e

def allNews (g h:Heap) (L:Addr):List (Addr×Obj):=(List.range h.objs.size).filterMap fun a=>if a=L∨(g.get? a).isSome=true then none else (h.get? a).map fun o=>(a,o)
def rest (g h:Heap) (L d:Addr):List (Addr×Obj):=(allNews g h L).filter fun p=>decide (p.1≠d)
end L2

namespace L2
open PySem PySem.Spec PyProof.Rows

structure Mod (K:PySem.W.Frag) (mg:Str→Option Value) (base:Heap):Prop where
 kin:K.In base
 glob:base.Ns mainGlobals mg
 blt:∃mb,base.Ns builtinsNs mb∧∀x:Str,x≠"__name__"→mb x=bootBuiltins x
 nolimit:base.NoLimit

structure Cx where
 prog:Program
 w:World
 K:PySem.W.Frag
 mg:Str→Option Value
 base:Heap
 A:Around
 N:List Str
 s₀:Shared
 H₀:Hp
 env:Env
 outer:List Env
 stack:List Env
 ex:List Addr
 fn:Str→Bool
 calm:Bool
 pn:List (Addr×Obj)
 xe:Value→Shared→Prop
def frs (l:List Env):List Addr:=l.filterMap (·.frame)
abbrev Cx.fs (X:Cx):List Addr:=frs X.outer

def Vis (sc:Scope) (x:Str):Prop:=sc.names.lookup x=some .local∨sc.names.lookup x=some .cell∨sc.names.lookup x=some .free
def Loc (sc:Scope) (x:Str):Prop:=sc.names.lookup x=some .local∨sc.names.lookup x=some .cell
def Look (env:Env) (h:Heap) (m:Str→Option Value) (x:Str) (u:Value):Prop :=
 (env.kindOf x=some .local∧m x=some u)∨((env.kindOf x=some .cell∨env.kindOf x=some .free)∧∃c,env.cells.lookup x=some c∧h.IsCell c (some u))

structure Cx.Ok (X:Cx):Prop where
 mod:Mod X.K X.mg X.base
 kind:X.env.scope.kind=.function
 glob:X.env.globals=mainGlobals
 blt:X.env.builtins=builtinsNs
 above:X.s₀.heap.objs.size≤X.env.locals
 inj:∀x y c,X.env.cells.lookup x=some c→X.env.cells.lookup y=some c→x=y
 has:∀x,(X.env.kindOf x=some .cell∨X.env.kindOf x=some .free)→∃c,X.env.cells.lookup x=some c
 cab:∀x c,X.fn x=true→X.env.cells.lookup x=some c→X.s₀.heap.objs.size≤c
 hd:X.calm=true→X.A.handled=none
 frames:X.A.frames=some X.stack
 stk:X.stack=X.outer∨(X.stack=X.env::X.outer∧X.env.frame=some X.env.locals)
 exf:∀b∈X.ex,b≠X.env.locals∧∀x c,X.env.cells.lookup x=some c→c≠b
 bs:∀b o,X.base.get? b=some o→X.s₀.heap.get? b=some o∧X.H₀ b=none
 bsz:X.base.objs.size≤X.s₀.heap.objs.size
 noex:∀b o,X.base.get? b=some o→b∉X.ex
 exfs:∀b∈X.ex,b∉X.fs
 funs:X.s₀.heap.FunFrames X.base X.outer
 frf:∀b∈X.fs,X.H₀ b=none

structure Inv (X:Cx) (pins:List (Addr×Obj)) (σ:List (Option V)) (H:Hp) (s:Shared):Prop where
 ok:X.Ok
 os:s.os=X.s₀.os
 bare:AllBare s.gens
 base:Un X.fs X.ex X.H₀ H X.s₀.heap s.heap
 loc:∃m,s.heap.Ns X.env.locals m∧∀(i:Nat) (x:Str) (v:V),X.N[i]? = some x→σ[i]? = some (some v)→Vis X.env.scope x→∃u,RelV v u∧Look X.env s.heap m x u
 cell:∀x c,X.env.cells.lookup x=some c→∃v,s.heap.IsCell c v
 free:H X.env.locals=none
 freeC:∀x c,X.env.cells.lookup x=some c→H c=none
 pin:∀p∈X.pn++pins,s.heap.get? p.1=some p.2∧H p.1=none∧p.1≠X.env.locals∧p.1∉X.fs∧∀v,p.2.data≠.cell v
 hok:HOk X.prog X.w H s.heap
 len:σ.length=X.N.length

section
variable {X:Cx}{pins:List (Addr×Obj)}{σ:List (Option V)}{H H':Hp}{s:Shared}{h':Heap}

theorem Cx.Ok.nofr (ok:X.Ok) {b:Addr}{o:Obj} (e:X.base.get? b=some o):b∉X.fs:=fun hb=>by
 have:=(ok.funs.mem hb).1
 rw [e] at this;cases this
theorem Inv.bs (I:Inv X pins σ H s):∀b o,X.base.get? b=some o→s.heap.get? b=some o∧H b=none:=fun b o e =>
 ⟨I.base.keep b o (I.ok.bs b o e).1 (I.ok.bs b o e).2 (I.ok.nofr e) (I.ok.noex b o e),I.base.free b o (I.ok.bs b o e).1 (I.ok.bs b o e).2 (I.ok.noex b o e)⟩
theorem Inv.bk (I:Inv X pins σ H s):∀b o,X.base.get? b=some o→s.heap.get? b=some o:=fun b o e=>(I.bs b o e).1
theorem Inv.mod (I:Inv X pins σ H s):Mod X.K X.mg X.base:=I.ok.mod
theorem Inv.kIn (I:Inv X pins σ H s):X.K.In s.heap:=I.ok.mod.kin.keeps I.bk
theorem Inv.lt (I:Inv X pins σ H s):X.env.locals < s.heap.objs.size:=let ⟨_,hn,_⟩:=I.loc;hn.lt
theorem Inv.sz (I:Inv X pins σ H s):X.s₀.heap.objs.size≤s.heap.objs.size:=Nat.le_trans I.ok.above (Nat.le_of_lt I.lt)
theorem Inv.nofs (I:Inv X pins σ H s) {a:Addr} (h:s.heap.objs.size≤a):a∉X.fs:=fun hb=>by
 obtain ⟨_,o,ho,_⟩:=I.ok.funs.mem hb
 exact absurd (Nat.lt_of_lt_of_le (Heap.lt_size ho) (Nat.le_trans I.sz h)) (Nat.lt_irrefl _)
theorem Inv.cne (I:Inv X pins σ H s):∀x c,X.env.cells.lookup x=some c→c≠X.env.locals:=fun x c e z=>by
 obtain ⟨v,o,ho,hd⟩:=I.cell x c e
 obtain ⟨m,⟨o',es,ep,ho',hd',_⟩,_⟩:=I.loc
 rw [z,ho'] at ho;cases ho;rw [hd'] at hd;cases hd
theorem Inv.funs (I:Inv X pins σ H s):s.heap.FunFrames X.base X.outer:=by
 have all:∀(l:List Env),(∀b∈frs l,b∈X.fs)→X.s₀.heap.FunFrames X.base l→s.heap.FunFrames X.base l:=by
   intro l
   induction l with
   | nil=>intro _ _;trivial
   | cons env r ih =>
     intro hs hl
     obtain ⟨hk,⟨L,o,hf,hn,ho,hd⟩,hr⟩:=hl
     have hL:L∈X.fs:=hs L (by unfold frs;rw [List.filterMap_cons,hf];exact List.mem_cons_self)
     obtain ⟨sl,e⟩:=I.base.slot L o ho (I.ok.frf L hL) hL fun z=>I.ok.exfs L z hL
     exact ⟨hk,⟨L,_,hf,hn,e,hd⟩,ih (fun b hb=>hs b (by unfold frs;rw [List.filterMap_cons,hf];exact List.mem_cons_of_mem _ hb)) hr⟩
 exact all X.outer (fun _ hb=>hb) I.ok.funs

theorem Inv.stack (I:Inv X pins σ H s):s.heap.FunFrames X.base X.stack:=by
 rcases I.ok.stk with e | ⟨e,hf⟩
 · rw [e];exact I.funs
 · rw [e]
   obtain ⟨m,hn,_⟩:=I.loc
   refine .cons (by rw [I.ok.kind];decide) hf hn ?_ I.funs
   exact Heap.get?_none_of_le (Nat.le_trans I.ok.bsz I.ok.above)
theorem Inv.stkSub (I:Inv X pins σ H s):∀b∈frs X.stack,b∈X.env.locals::X.fs:=fun b hb=>by
 rcases I.ok.stk with e | ⟨e,hf⟩
 · rw [e] at hb;exact List.mem_cons_of_mem _ hb
 · rw [e] at hb
   unfold frs at hb
   rw [List.filterMap_cons,hf] at hb
   exact hb
theorem Inv.stkFree (I:Inv X pins σ H s):∀b∈frs X.stack,H b=none:=fun b hb=>by
 rcases List.mem_cons.mp (I.stkSub b hb) with e | hb
 · rw [e];exact I.free
 · obtain ⟨_,o,ho,_⟩:=I.ok.funs.mem hb
   exact I.base.free b o ho (I.ok.frf b hb) fun z=>I.ok.exfs b z hb

theorem Inv.step {g':Array GenState}{t':Nat}{d':Drawn}{ch:List Addr} (I:Inv X pins σ H s)
   (hch:∀b∈ch,(b∈X.ex∨X.s₀.heap.objs.size≤b)∧b≠X.env.locals∧(∀x c,X.env.cells.lookup x=some c→c≠b)∧∀p∈X.pn++pins,p.1≠b)
   (keep:∀b o,b≠X.env.locals→b∉X.fs→b∉ch→s.heap.get? b=some o→H b=none→h'.get? b=some o)
   (slot:∀b o,b≠X.env.locals→b∈X.fs→b∉ch→s.heap.get? b=some o→H b=none→∃sl,h'.get? b=some { o with slots:=sl }) (free:∀b o,b∉ch→s.heap.get? b=some o→H b=none→H' b=none)
   (there:∀b o,b∉ch→s.heap.get? b=some o→∃o',h'.get? b=some o')
   (tups:∀b xs,H b=some (.tup xs)→H' b=some (.tup xs)) (frzs:∀b o u,H b=some (.frz o u)→H' b=some (.frz o u)) (tbls:∀b ps,H b=some (.tbl ps)→∃more,H' b=some (.tbl (ps++more)))
   (ns:∀m,s.heap.Ns X.env.locals m→h'.Ns X.env.locals m) (hok:HOk X.prog X.w H' h') (hg:AllBare g') :
   Inv X pins σ H' { s with heap:=h',gens:=g',drawn:=d',toks:=t' }:=by
 have neL:∀b o,X.s₀.heap.get? b=some o→b≠X.env.locals:=fun b o e=>Nat.ne_of_lt (Nat.lt_of_lt_of_le (Heap.lt_size e) I.ok.above)
 have neC:∀b o,X.s₀.heap.get? b=some o→b∉X.ex→b∉ch:=fun b o e hx hb=>by
   rcases (hch b hb).1 with z | z
   · exact hx z
   · exact absurd (Nat.lt_of_lt_of_le (Heap.lt_size e) z) (Nat.lt_irrefl _)
 have cellK:∀x c,X.env.cells.lookup x=some c→∀v,s.heap.IsCell c v→h'.IsCell c v:=fun x c e v ⟨o,ho,hd⟩=>by
   have nch:c∉ch:=fun z=>(hch c z).2.2.1 x c e rfl
   by_cases hc:c∈X.fs
   · obtain ⟨sl,q⟩:=slot c o (I.cne x c e) hc nch ho (I.freeC x c e)
     exact ⟨_,q,hd⟩
   · exact ⟨o,keep c o (I.cne x c e) hc nch ho (I.freeC x c e),hd⟩
 refine ⟨I.ok,I.os,hg,⟨fun b o e n hb hx=>?_,fun b o e n hb hx=>?_,fun b o e n hx=>?_,fun b o e hx=>?_,fun b xs e=>tups b xs (I.base.tups b xs e),fun b o xs e=>frzs b o xs (I.base.frzs b o xs e),fun b ps e=>?_⟩,?_,fun x c e=>?_,?_,fun x c e=>?_,fun p hp=>?_,hok,I.len⟩
 · exact keep b o (neL b o e) hb (neC b o e hx) (I.base.keep b o e n hb hx) (I.base.free b o e n hx)
 · obtain ⟨sl,e1⟩:=I.base.slot b o e n hb hx
   obtain ⟨sl',e2⟩:=slot b _ (neL b o e) hb (neC b o e hx) e1 (I.base.free b o e n hx)
   exact ⟨sl',e2⟩
 · obtain ⟨o',e1⟩:=I.base.there b o e hx
   exact free b o' (neC b o e hx) e1 (I.base.free b o e n hx)
 · obtain ⟨o',e1⟩:=I.base.there b o e hx
   exact there b o' (neC b o e hx) e1
 · obtain ⟨m1,e1⟩:=I.base.tbls b ps e
   obtain ⟨m2,e2⟩:=tbls b _ e1
   exact ⟨m1++m2,by rw [e2,Array.append_assoc]⟩
 · obtain ⟨m,hn,hl⟩:=I.loc
   refine ⟨m,ns m hn,fun i x v e1 e2 e3=>?_⟩
   obtain ⟨u,r,l⟩:=hl i x v e1 e2 e3
   refine ⟨u,r,?_⟩
   rcases l with l | ⟨k,c,e,z⟩
   · exact .inl l
   · exact .inr ⟨k,c,e,cellK x c e _ z⟩
 · obtain ⟨v,z⟩:=I.cell x c e
   exact ⟨v,cellK x c e v z⟩
 · obtain ⟨m,⟨o,_,_,ho,_⟩,_⟩:=I.loc
   exact free _ o (fun z=>(hch _ z).2.1 rfl) ho I.free
 · obtain ⟨v,o,ho,hd⟩:=I.cell x c e
   exact free c o (fun z=>(hch c z).2.2.1 x c e rfl) ho (I.freeC x c e)
 · obtain ⟨e,n,ne,nf,d⟩:=I.pin p hp
   have nch:p.1∉ch:=fun z=>(hch p.1 z).2.2.2 p hp rfl
   exact ⟨keep p.1 p.2 ne nf nch e n,free p.1 p.2 nch e n,ne,nf,d⟩
theorem Inv.un {t':Nat} (I:Inv X pins σ H s) (u:Un X.fs [] H H' s.heap h') (hok:HOk X.prog X.w H' h'):Inv X pins σ H' { s with heap:=h',toks:=t' }:=by
 obtain ⟨m,⟨o,es,ep,ho,r⟩,_⟩:=id I.loc
 obtain ⟨sl,hL⟩:=u.any ho I.free (by simp)
 exact I.step (g':=s.gens) (d':=s.drawn) (ch:=[]) (fun _ z=>nomatch z) (fun b o _ hb _ e n=>u.keep b o e n hb (by simp)) (fun b o _ hb _ e n=>u.slot b o e n hb (by simp)) (fun b o _ e n=>u.free b o e n (by simp)) (fun b o _ e=>u.there b o e (by simp)) u.tups u.frzs u.tbls (fun m' hm=>by
   obtain ⟨o',es',ep',ho',r'⟩:=hm
   rw [ho] at ho';cases ho'
   exact ⟨_,es',ep',hL,r'⟩) hok I.bare
theorem Inv.call {g':Array GenState}{t':Nat}{d':Drawn}{ch:List Addr} (I:Inv X pins σ H s) (u:Un (frs X.stack) ch H H' s.heap h') (hok:HOk X.prog X.w H' h') (hg:AllBare g')
   (hch:∀b∈ch,(b∈X.ex∨X.s₀.heap.objs.size≤b)∧b≠X.env.locals∧(∀x c,X.env.cells.lookup x=some c→c≠b)∧∀p∈X.pn++pins,p.1≠b) :
   Inv X pins σ H' { s with heap:=h',gens:=g',drawn:=d',toks:=t' }:=by
 obtain ⟨m,⟨o,es,ep,ho,r⟩,_⟩:=id I.loc
 obtain ⟨sl,hL⟩:=u.any ho I.free fun z=>(hch _ z).2.1 rfl
 exact I.step (ch:=ch) hch (fun b o hL hb hc e n=>u.keep b o e n (fun z=>(List.mem_cons.mp (I.stkSub b z)).elim hL hb) hc) (fun b o _ _ hc e n=>u.any e n hc) (fun b o hc e n=>u.free b o e n hc) (fun b o hc e=>u.there b o e hc) u.tups u.frzs u.tbls (fun m' hm=>by
   obtain ⟨o',es',ep',ho',r'⟩:=hm
   rw [ho] at ho';cases ho'
   exact ⟨_,es',ep',hL,r'⟩) hok hg
theorem Inv.turned {t':Nat}{it:Addr} (I:Inv X pins σ H s) (k:∀b o,b≠it→s.heap.get? b=some o→h'.get? b=some o) (hn:H it=none) (hL:it≠X.env.locals)
   (h1:it∈X.ex∨X.s₀.heap.objs.size≤it) (h2:∀x c,X.env.cells.lookup x=some c→c≠it) (h3:∀p∈X.pn++pins,p.1≠it):Inv X pins σ H { s with heap:=h',toks:=t' }:=by
 have nit:∀b u,H b=some u→b≠it:=fun b u e z=>by rw [z,hn] at e;cases e
 refine I.step (g':=s.gens) (d':=s.drawn) (ch:=[it]) (fun b hb=>?_) (fun b o _ _ hc e _=>k b o (fun z=>hc (by simp [z])) e) (fun b o _ _ hc e _=>⟨o.slots,k b o (fun z=>hc (by simp [z])) e⟩) (fun _ _ _ _ n=>n)
   (fun b o hc e=>⟨o,k b o (fun z=>hc (by simp [z])) e⟩) (fun _ _ e=>e) (fun _ _ _ e=>e) (fun b ps e=>⟨#[],by rw [e];simp⟩) (fun m hm=>?_) (fun b u e=>?_) I.bare
 · have e:b=it:=by simpa using hb
   subst e
   exact ⟨h1,hL,h2,h3⟩
 · obtain ⟨o,es,ep,ho,r⟩:=hm
   exact ⟨o,es,ep,k _ o (Ne.symm hL) ho,r⟩
 · refine (I.hok b u e).stay (fun c v hc q=>k c v ?_ q) (fun _ q=>q) fun _ _ q=>q
   rcases hc with z | z
   · rw [z];exact nit b u e
   · exact nit c _ z
theorem Inv.tok (I:Inv X pins σ H s) (t:Nat):Inv X pins σ H { s with toks:=t }:=I.un (h':=s.heap) (t':=t) Un.refl I.hok
theorem Inv.kept {t':Nat} (I:Inv X pins σ H s) (k:∀b u,s.heap.get? b=some u→h'.get? b=some u):Inv X pins σ H { s with heap:=h',toks:=t' }:=I.un (Un.kept k) (I.hok.kept k)
theorem Inv.laid {a:Addr}{o:HO}{t':Nat} (I:Inv X pins σ H s) (k:∀b u,s.heap.get? b=some u→h'.get? b=some u) (hp:s.heap.objs.size≤a) (new:ObjOk X.prog X.w (upd H a o) h' a o) :
   Inv X pins σ (upd H a o) { s with heap:=h',toks:=t' }:=I.un (Un.laid k hp (I.hok.fresh hp)) (I.hok.laid k hp new)
theorem Inv.write {x e:Addr}{o:HO}{t':Nat} (I:Inv X pins σ H s) (mu:Mut (H x)) (he:e=x∨H e=some (.own x)) (k:∀b u,b≠e→s.heap.get? b=some u→h'.get? b=some u) (heo:∃u,h'.get? e=some u)
   (new:ObjOk X.prog X.w (upd H x o) h' x o):Inv X pins σ (upd H x o) { s with heap:=h',toks:=t' }:=I.un (Un.write mu he k heo) (I.hok.write mu he k heo new)
theorem Inv.pins_of {pins':List (Addr×Obj)} (I:Inv X pins σ H s) (h:∀p∈pins',s.heap.get? p.1=some p.2∧H p.1=none∧p.1≠X.env.locals∧p.1∉X.fs∧∀v,p.2.data≠.cell v):Inv X pins' σ H s :=
 ⟨I.ok,I.os,I.bare,I.base,I.loc,I.cell,I.free,I.freeC,fun p hp=>(List.mem_append.mp hp).elim (fun z=>I.pin p (List.mem_append_left _ z)) (h p),I.hok,I.len⟩

theorem zra {N:List Str} (hN:N.Nodup) {i j:Nat}{x:Str} (a:N[i]? = some x) (b:N[j]? = some x):i=j:=by
 obtain ⟨h1,e1⟩:=List.getElem?_eq_some_iff.mp a
 obtain ⟨h2,e2⟩:=List.getElem?_eq_some_iff.mp b
 exact (List.getElem_inj hN).mp (e1.trans e2.symm)

theorem zup {M:Model}{A:Around}{E:Value→Shared→Prop}{i:Nat}{x:Str}{v:V}{u:Value}{Q:Unit→Shared→Prop} (I:Inv X pins σ H s) (hN:X.N.Nodup) (hi:X.N[i]? = some x) (hx:Loc X.env.scope x) (r:RelV v u)
   (h:∀s',Inv X pins (σ.set i (some v)) H s'→(∃a,Heap.SameBut a s.heap s'.heap∧(a=X.env.locals∨X.env.cells.lookup x=some a))→Q () s') (hf:X.fn x=true∨X.env.scope.names.lookup x=some .local:=by first | exact .inl rfl | exact .inr rfl | assumption):wpAny M A (storeName X.env x u) Q E s:=by
 obtain ⟨m,hn,hl⟩:=id I.loc
 have hcls:(X.env.scope.kind == .class || (X.env.scope.kind == .module && X.env.locals != X.env.globals))=false:=by rw [I.ok.kind];rfl
 have hiσ:i < σ.length:=by rw [I.len];exact (List.getElem?_eq_some_iff.mp hi).1
 have cne:=I.cne
 have tracked:∀{a:Addr}{h':Heap},(∃o,s.heap.get? a=some o∧H a=none)→Heap.SameBut a s.heap h'→HOk X.prog X.w H h':=fun {a h'} ha hs b ob e=>by
   obtain ⟨_,_,hfree⟩:=ha
   refine (I.hok b ob e).stay (fun c w' hc q=>(hs.2 c ?_).trans q) (fun _ q=>q) fun _ _ q=>q
   rintro rfl
   rcases hc with rfl | hc
   · rw [hfree] at e;cases e
   · rw [hfree] at hc;cases hc
 rcases hx with hk | hk
 · refine wpAny_storeName_local hk hn (fun h' hn' hs=>?_) hcls
   obtain ⟨oL,_,_,hoL,_⟩:=id hn
   refine h _ ⟨I.ok,I.os,I.bare,⟨fun b o e n hb hx=>?_,fun b o e n hb hx=>?_,I.base.free,fun b o e hx=>?_,I.base.tups,I.base.frzs,I.base.tbls⟩,⟨_,hn',fun j y v' e1 e2 e3=>?_⟩,fun y c e=>?_,I.free,I.freeC,fun p hp=>?_,tracked ⟨oL,hoL,I.free⟩ hs,by simpa using I.len⟩ ⟨_,hs,.inl rfl⟩
   · exact (hs.2 b (Nat.ne_of_lt (Nat.lt_of_lt_of_le (Heap.lt_size e) I.ok.above))).trans (I.base.keep b o e n hb hx)
   · obtain ⟨sl,e1⟩:=I.base.slot b o e n hb hx
     exact ⟨sl,(hs.2 b (Nat.ne_of_lt (Nat.lt_of_lt_of_le (Heap.lt_size e) I.ok.above))).trans e1⟩
   · obtain ⟨o',e1⟩:=I.base.there b o e hx
     exact ⟨o',(hs.2 b (Nat.ne_of_lt (Nat.lt_of_lt_of_le (Heap.lt_size e) I.ok.above))).trans e1⟩
   · by_cases hj:j=i
     · subst hj
       rw [hi] at e1;cases e1
       rw [List.getElem?_set_self hiσ] at e2
       cases e2
       exact ⟨u,r,.inl ⟨hk,by simp⟩⟩
     · rw [List.getElem?_set_ne (Ne.symm hj)] at e2
       obtain ⟨u',r',q⟩:=hl j y v' e1 e2 e3
       refine ⟨u',r',?_⟩
       rcases q with ⟨k,e⟩ | ⟨k,c,e,z⟩
       · refine .inl ⟨k,?_⟩
         have:y≠x:=fun e=>hj (zra hN e1 (e ▸ hi))
         simp [this,e]
       · exact .inr ⟨k,c,e,z.sameBut hs (cne y c e)⟩
   · obtain ⟨w',z⟩:=I.cell y c e
     exact ⟨w',z.sameBut hs (cne y c e)⟩
   · obtain ⟨e,n,ne,nf,d⟩:=I.pin p hp
     exact ⟨(hs.2 p.1 ne).trans e,n,ne,nf,d⟩
 · have hfn:X.fn x=true:=by
     rcases hf with z | z
     · exact z
     · rw [z] at hk;cases hk
   obtain ⟨c,hc⟩:=I.ok.has x (.inl hk)
   obtain ⟨w',z⟩:=I.cell x c hc
   refine wpAny_storeName_cell I.ok.kind hk hc z (fun h' hc' hs=>?_)
   obtain ⟨oc,hoc,hocd⟩:=id z
   refine h { s with heap:=h' } ⟨I.ok,I.os,I.bare,⟨fun b o e n hb hx=>?_,fun b o e n hb hx=>?_,I.base.free,fun b o e hx=>?_,I.base.tups,I.base.frzs,I.base.tbls⟩,⟨m,hn.sameBut hs (Ne.symm (cne x c hc)),fun j y v' e1 e2 e3=>?_⟩,fun y c' e=>?_,I.free,I.freeC,fun p hp=>?_,tracked ⟨oc,hoc,I.freeC x c hc⟩ hs,by simpa using I.len⟩ ⟨c,hs,.inr hc⟩
   · exact (hs.2 b (Nat.ne_of_lt (Nat.lt_of_lt_of_le (Heap.lt_size e) (I.ok.cab x c hfn hc)))).trans (I.base.keep b o e n hb hx)
   · obtain ⟨sl,e1⟩:=I.base.slot b o e n hb hx
     exact ⟨sl,(hs.2 b (Nat.ne_of_lt (Nat.lt_of_lt_of_le (Heap.lt_size e) (I.ok.cab x c hfn hc)))).trans e1⟩
   · obtain ⟨o',e1⟩:=I.base.there b o e hx
     exact ⟨o',(hs.2 b (Nat.ne_of_lt (Nat.lt_of_lt_of_le (Heap.lt_size e) (I.ok.cab x c hfn hc)))).trans e1⟩
   · by_cases hj:j=i
     · subst hj
       rw [hi] at e1;cases e1
       rw [List.getElem?_set_self hiσ] at e2
       cases e2
       exact ⟨u,r,.inr ⟨.inl hk,c,hc,hc'⟩⟩
     · rw [List.getElem?_set_ne (Ne.symm hj)] at e2
       obtain ⟨u',r',q⟩:=hl j y v' e1 e2 e3
       refine ⟨u',r',?_⟩
       rcases q with q | ⟨k,c',e,z'⟩
       · exact .inl q
       · refine .inr ⟨k,c',e,z'.sameBut hs ?_⟩
         rintro rfl
         exact hj (zra hN e1 (I.ok.inj _ _ _ e hc ▸ hi))
   · by_cases hcc:c'=c
     · subst hcc;exact ⟨_,hc'⟩
     · obtain ⟨w2,z2⟩:=I.cell y c' e
       exact ⟨w2,z2.sameBut hs hcc⟩
   · obtain ⟨e,n,ne,nf,d⟩:=I.pin p hp
     refine ⟨(hs.2 p.1 ?_).trans e,n,ne,nf,d⟩
     intro q
     rw [q,hoc] at e
     have q':oc=p.2:=Option.some.inj e
     exact d w' (by rw [← q'];exact hocd)
theorem zqq {M:Model}{A:Around}{E:Value→Shared→Prop}{i:Nat}{x:Str}{v:V}{u:Value}{Q:Unit→Shared→Prop} (I:Inv X pins σ H s) (hN:X.N.Nodup) (hi:X.N[i]? = some x) (hx:Loc X.env.scope x) (r:RelV v u)
   (h:∀s',Inv X pins (σ.set i (some v)) H s'→Q () s') (hf:X.fn x=true∨X.env.scope.names.lookup x=some .local:=by first | exact .inl rfl | exact .inr rfl | assumption):wpAny M A (storeName X.env x u) Q E s :=
 zup I hN hi hx r (fun s' I' _=>h s' I') hf
theorem Inv.call' {s':Shared}{ch:List Addr} (I:Inv X pins σ H s) (ho:s'.os=s.os) (u:Un (frs X.stack) ch H H' s.heap s'.heap) (hok:HOk X.prog X.w H' s'.heap) (hg:AllBare s'.gens)
   (hch:∀b∈ch,(b∈X.ex∨X.s₀.heap.objs.size≤b)∧b≠X.env.locals∧(∀x c,X.env.cells.lookup x=some c→c≠b)∧∀p∈X.pn++pins,p.1≠b):Inv X pins σ H' s':=by
 obtain ⟨h',g',d',t',o'⟩:=s'
 have e:o'=s.os:=ho
 subst e
 exact I.call (g':=g') (t':=t') (d':=d') u hok hg hch
end

abbrev XK:=Value→Option Addr→Hp→Prop
abbrev St:=List (Option V)
abbrev VK:=V→Hp→Prop
abbrev TE:=St→Hp→VK→Prop
abbrev TT:=St→Hp→(Bool→Hp→Prop)→Prop
abbrev TA:=St→Hp→(List V→Hp→Prop)→Prop
structure Ends where
 nx:St→Hp→Prop
 rt:VK
 bk:St→Hp→Prop:=fun _ _=>False
 ct:St→Hp→Prop:=fun _ _=>False
abbrev TS:=Ends→St→Hp→Prop

def EP (X:Cx) (pins:List (Addr×Obj)) (σ:St) (Q:VK) (u:Value) (s':Shared):Prop:=∃v H',Inv X pins σ H' s'∧RelV v u∧Q v H'
def TP (X:Cx) (pins:List (Addr×Obj)) (σ:St) (Q:Bool→Hp→Prop) (b:Bool) (s':Shared):Prop:=∃H',Inv X pins σ H' s'∧Q b H'
def AP (X:Cx) (pins:List (Addr×Obj)) (σ:St) (Q:List V→Hp→Prop) (us:List Value) (s':Shared):Prop:=∃vs H',Inv X pins σ H' s'∧Vals vs us∧Q vs H'
def SP (X:Cx) (pins:List (Addr×Obj)) (D:Ends) (f:Flow) (s':Shared):Prop :=
 match f with
 | .next=>∃σ' H',Inv X pins σ' H' s'∧D.nx σ' H'
 | .brk=>∃σ' H',Inv X pins σ' H' s'∧D.bk σ' H'
 | .cont=>∃σ' H',Inv X pins σ' H' s'∧D.ct σ' H'
 | .ret u=>∃v σ' H',Inv X pins σ' H' s'∧RelV v u∧D.rt v H'

def PE (X:Cx) (e:Expr) (t:TE):Prop :=
 ∀(pins:List (Addr×Obj)) (s:Shared) (σ:St) (H:Hp) (Q:VK),Inv X pins σ H s→t σ H Q→wpAny (model X.prog X.w) X.A (eval e X.env) (EP X pins σ Q) X.xe s
def PT (X:Cx) (e:Expr) (t:TT):Prop :=
 ∀(pins:List (Addr×Obj)) (s:Shared) (σ:St) (H:Hp) (Q:Bool→Hp→Prop),Inv X pins σ H s→t σ H Q→wpAny (model X.prog X.w) X.A (isTrue e X.env (eval e X.env)) (TP X pins σ Q) X.xe s
def PW (X:Cx) (e:Expr) (t:TT):Prop :=
 ∀(whole:Sem Value) (pins:List (Addr×Obj)) (s:Shared) (σ:St) (H:Hp) (Q:Bool→Hp→Prop),Inv X pins σ H s→t σ H Q→wpAny (model X.prog X.w) X.A (isTrue e X.env whole) (TP X pins σ Q) X.xe s
theorem PW.pt {X:Cx}{e:Expr}{t:TT} (h:PW X e t):PT X e t:=h _
def PA (X:Cx) (es:List Expr) (t:TA):Prop :=
 ∀(pos:Pos) (pins:List (Addr×Obj)) (s:Shared) (σ:St) (H:Hp) (Q:List V→Hp→Prop),Inv X pins σ H s→t σ H Q→wpAny (model X.prog X.w) X.A (spliced (backTo pos (starEach es X.env))) (AP X pins σ Q) X.xe s
def PS (X:Cx) (st:Stmt) (t:TS):Prop :=
 ∀(pins:List (Addr×Obj)) (s:Shared) (σ:St) (H:Hp) (D:Ends),Inv X pins σ H s→t D σ H→wpAny (model X.prog X.w) X.A (exec st X.env) (SP X pins D) X.xe s
def PSs (X:Cx) (st:List Stmt) (t:TS):Prop :=
 ∀(pins:List (Addr×Obj)) (s:Shared) (σ:St) (H:Hp) (D:Ends),Inv X pins σ H s→t D σ H→wpAny (model X.prog X.w) X.A (execs st X.env) (SP X pins D) X.xe s
theorem thn {α:Type}{t:Sem α}{Q Q':α→Shared→Prop}{M:Model}{A:Around}{E:Value→Shared→Prop}{s:Shared} (h:wpAny M A t Q E s) (hQ:∀a s,Q a s→Q' a s):wpAny M A t Q' E s:=wpAny_mono h hQ fun _ _ x=>x
end L2

namespace L2
open PySem PySem.Spec PyProof.Rows
section
variable {X:Cx}

def tVar (i:Nat):TE:=fun σ H Q=>∃v,σ[i]? = some (some v)∧Q v H
def tC (v:V):TE:=fun _ H Q=>Q v H
theorem pe_var {i:Nat}{x:Str}{pos:Pos} (hN:X.N[i]? = some x) (hv:Vis X.env.scope x) (hd:(x == ("__debug__":Str))=false:=by decide) (hcd:(x == ("__classdict__":Str))=false:=by decide):PE X (.Name x pos) (tVar i):=by
 intro pins s σ H Q I h
 obtain ⟨v,e,h⟩:=h
 obtain ⟨m,hn,hl⟩:=I.loc
 obtain ⟨u,r,l⟩:=hl i x v hN e hv
 have fin:EP X pins σ Q u s:=⟨v,H,I,r,h⟩
 rcases l with ⟨hk,hm⟩ | ⟨hk,c,hc,hcell⟩
 · exact wpAny_Name (wpAny_loadName_local I.ok.kind hk hn hm fin) hd
 · rcases hk with hk | hk
   · exact wpAny_Name (wpAny_loadName_cell I.ok.kind hk hc hcell fin) hd
   · exact wpAny_Name (wpAny_loadName_free I.ok.kind hk hc hcell fin hcd) hd
theorem pe_int {i j pos}:PE X (.Constant (.int i) j pos) (tC (.int i)):=fun _ _ _ H _ I h=>wpAny_Constant_int ⟨.int i,H,I.tok _,⟨_,rfl⟩,h⟩
theorem pe_bl {b j pos}:PE X (.Constant (.bool b) j pos) (tC (.bl b)):=fun _ _ _ H _ I h=>Constant_bool ⟨.bl b,H,I,rfl,h⟩
theorem pe_non {j pos}:PE X (.Constant .none j pos) (tC .non):=fun _ _ _ H _ I h=>Constant_none ⟨.non,H,I,rfl,h⟩
theorem pe_str {x j pos}:PE X (.Constant (.str x) j pos) (tC (.str x)):=fun _ _ _ H _ I h=>Calls.Constant_str ⟨.str x,H,I.tok _,⟨_,rfl⟩,h⟩

def Gl (X:Cx) (x:Str):Prop:=X.env.kindOf x=some .globalImplicit
theorem zlr {E:Value→Shared→Prop}{pins:List (Addr×Obj)}{s:Shared}{σ:St}{H:Hp}{x:Str}{u:Value}{pos:Pos}{Q:Value→Shared→Prop} (I:Inv X pins σ H s) (hg:Gl X x) (hm:X.mg x=some u) (h:Q u s)
   (hd:(x == ("__debug__":Str))=false:=by decide):wpAny (model X.prog X.w) X.A (eval (.Name x pos) X.env) Q E s :=
 Calls.Name_function_global I.ok.kind hg (Calls.loadGlobal_global (by rw [I.ok.glob];exact I.mod.glob.keeps I.bk) hm h) hd
theorem zik {E:Value→Shared→Prop}{pins:List (Addr×Obj)}{s:Shared}{σ:St}{H:Hp}{x:Str}{u:Value}{pos:Pos}{Q:Value→Shared→Prop} (I:Inv X pins σ H s) (hg:Gl X x) (hm:X.mg x=none) (hv:bootBuiltins x=some u) (h:Q u s)
   (hn:x≠"__name__":=by decide) (hd:(x == ("__debug__":Str))=false:=by decide):wpAny (model X.prog X.w) X.A (eval (.Name x pos) X.env) Q E s:=by
 obtain ⟨mb,h1,h2⟩:=I.mod.blt
 exact Calls.Name_function_global I.ok.kind hg (Calls.loadGlobal_builtin (by rw [I.ok.glob];exact I.mod.glob.keeps I.bk) hm (by rw [I.ok.blt];exact h1.keeps I.bk) ((h2 x hn).trans hv) h) hd
theorem pe_glob {x:Str}{v:V}{u:Value}{pos:Pos} (hg:Gl X x) (hm:X.mg x=some u) (r:RelV v u) (hd:(x == ("__debug__":Str))=false:=by decide):PE X (.Name x pos) (tC v) :=
 fun _ _ _ H _ I h=>zlr I hg hm ⟨v,H,I,r,h⟩ hd
theorem pe_bltn {x:Str}{v:V}{u:Value}{pos:Pos} (hg:Gl X x) (hm:X.mg x=none) (hv:bootBuiltins x=some u) (r:RelV v u) (hn:x≠"__name__":=by decide) (hd:(x == ("__debug__":Str))=false:=by decide):PE X (.Name x pos) (tC v) :=
 fun _ _ _ H _ I h=>zik I hg hm hv ⟨v,H,I,r,h⟩ hn hd

variable {a b:Expr}{ta tb:TE}{pos:Pos}
def tB (t:TE):TT:=fun σ H Q=>t σ H fun x H1=>∃c,x=.bl c∧Q c H1
theorem pt_val {e:Expr}{t:TE} (h:PE X e t) (he:∀whole,isTrue e X.env whole=(do let v ← whole;standAt e.pos;holding [v] (truthy v)):=by intro _;rfl):PT X e (tB t):=by
 intro pins s σ H Q I hw
 refine isTrue_plain (thn (h pins s σ H _ I hw) fun v s1 ⟨x,H1,I1,r1,q1⟩=>?_) (he _)
 obtain ⟨d,rfl,q⟩:=q1
 cases r1
 exact wpAny_truthy_bool ⟨H1,I1,q⟩

variable {tA tB':TT}{rest:List Expr}
def tAnd (t u:TT):TT:=fun σ H Q=>t σ H fun c H1=>if c=true then u σ H1 Q else Q false H1
def tOr (t u:TT):TT:=fun σ H Q=>t σ H fun c H1=>if c=true then Q true H1 else u σ H1 Q
def tNot (t:TT):TT:=fun σ H Q=>t σ H fun c H1=>Q (!c) H1
theorem pw_and1 (ha:PT X a tA):PW X (.BoolOp .And [a] pos) tA:=by
 intro wh pins s σ H Q I h
 refine isTrue_and (thn (ha pins s σ H Q I h) fun c s1 e=>?_)
 cases c with
 | true=>exact isTrue_and_nil e
 | false=>exact e
theorem pw_or1 (ha:PT X a tA):PW X (.BoolOp .Or [a] pos) tA:=by
 intro wh pins s σ H Q I h
 refine isTrue_or (thn (ha pins s σ H Q I h) fun c s1 e=>?_)
 cases c with
 | false=>exact isTrue_or_nil e
 | true=>exact e
theorem pw_and (ha:PT X a tA) (hb:PW X (.BoolOp .And (b::rest) pos) tB'):PW X (.BoolOp .And (a::b::rest) pos) (tAnd tA tB'):=by
 intro wh pins s σ H Q I h
 refine isTrue_and (thn (ha pins s σ H _ I h) fun c s1 ⟨H1,I1,q1⟩=>?_)
 cases c with
 | true=>exact hb wh pins s1 σ H1 Q I1 q1
 | false=>exact ⟨H1,I1,q1⟩
theorem pw_or (ha:PT X a tA) (hb:PW X (.BoolOp .Or (b::rest) pos) tB'):PW X (.BoolOp .Or (a::b::rest) pos) (tOr tA tB'):=by
 intro wh pins s σ H Q I h
 refine isTrue_or (thn (ha pins s σ H _ I h) fun c s1 ⟨H1,I1,q1⟩=>?_)
 cases c with
 | true=>exact ⟨H1,I1,q1⟩
 | false=>exact hb wh pins s1 σ H1 Q I1 q1
theorem pt_not (ha:PT X a tA):PT X (.UnaryOp .Not a pos) (tNot tA):=by
 intro pins s σ H Q I h
 exact isTrue_not (ha pins s σ H (fun c H1=>Q (!c) H1) I h)
def tAndV (ta tb:TE):TE:=fun σ H Q=>ta σ H fun x H1=>∃c,x=.bl c∧if c=true then tb σ H1 Q else Q (.bl false) H1
def tNotV (ta:TE):TE:=fun σ H Q=>ta σ H fun x H1=>∃c,x=.bl c∧Q (.bl (!c)) H1
theorem pe_one {op}{t:TE} (h:PE X a t):PE X (.BoolOp op [a] pos) t:=fun pins s σ H Q I hw=>BoolOp_one (h pins s σ H Q I hw)
theorem pe_and (ha:PE X a ta) (hb:PE X (.BoolOp .And (b::rest) pos) tb):PE X (.BoolOp .And (a::b::rest) pos) (tAndV ta tb):=by
 intro pins s σ H Q I h
 refine BoolOp_and (thn (ha pins s σ H _ I h) fun v s1 ⟨x,H1,I1,r1,q1⟩=>?_)
 obtain ⟨c,rfl,q1⟩:=q1
 cases r1
 refine wpAny_truthy_bool ?_
 cases c with
 | true=>exact hb pins s1 σ H1 Q I1 q1
 | false=>exact ⟨.bl false,H1,I1,rfl,q1⟩
theorem pe_not (ha:PE X a ta):PE X (.UnaryOp .Not a pos) (tNotV ta):=by
 intro pins s σ H Q I h
 refine UnaryOp_ (thn (ha pins s σ H _ I h) fun v s1 ⟨x,H1,I1,r1,q1⟩=>?_)
 obtain ⟨c,rfl,q1⟩:=q1
 cases r1
 exact not_of (wpAny_truthy_bool ⟨.bl (!c),H1,I1,rfl,q1⟩)
end
end L2

namespace L2
open PySem PySem.Spec PyProof.Rows

def SqL (K:PySem.W.Frag) (H:Hp) (a:Addr) (xs:List V):Prop :=
 Rd H a (.lst xs) ∨
   ∃(o:Obj) (its:Array Value) (n:Nat),K.lookup a=some o∧o.cls=.type "list"∧o.dict=none∧o.data=.seq its n∧its.size≤sizeLine∧Vals xs its.toList
def SqT (K:PySem.W.Frag) (H:Hp) (a:Addr) (xs:List V):Prop :=
 Rd H a (.tup xs) ∨
   ∃(o:Obj) (its:Array Value) (n:Nat),K.lookup a=some o∧o.cls=.type "tuple"∧o.data=.seq its n∧its.size≤sizeLine∧Vals xs its.toList
def absV:Value→Option V
 | .none=>some .non
 | .bool b=>some (.bl b)
 | .int i _=>some (.int i)
 | .str x _=>some (.str x)
 | .bytes b _=>some (.byt b)
 | .float b _=>some (.flt b)
 | .ref a=>some (.ref a)
 | .type n=>some (.ty n)
 | _=>none
theorem RelV.abs {x:V}{u:Value} (r:RelV x u):absV u=some x:=by
 cases x with
 | non=>cases r;rfl
 | bl _=>cases r;rfl
 | int _=>obtain ⟨t,rfl⟩:=r;rfl
 | str _=>obtain ⟨t,rfl⟩:=r;rfl
 | byt _=>obtain ⟨t,rfl⟩:=r;rfl
 | flt _=>obtain ⟨t,rfl⟩:=r;rfl
 | ref _=>cases r;rfl
 | ty _=>cases r;rfl
theorem RelV.inj {x y:V}{u:Value} (r:RelV x u) (q:RelV y u):x=y:=Option.some.inj (r.abs.symm.trans q.abs)
theorem Vals.inj:∀{xs ys:List V}{us:List Value},Vals xs us→Vals ys us→xs=ys
 | _,_,_,.nil,.nil=>rfl
 | _,_,_,.cons r t,.cons r' t'=>by rw [r.inj r',Vals.inj t t']
section
variable {X:Cx}{pins:List (Addr×Obj)}{σ:St}{H:Hp}{s:Shared}{a:Addr}{xs ys:List V}
theorem SqL.of {K:PySem.W.Frag} (h:H a=some (.lst xs)):SqL K H a xs:=.inl (.inl h)
theorem Inv.list (I:Inv X pins σ H s) (h:SqL X.K H a xs):∃its:List Value,Vals xs its∧PlainL s.heap a its.toArray∧xs.length≤sizeLine:=by
 rcases h with h | ⟨o,its,n,hk,hc,hd,hs,hz,r⟩
 · obtain ⟨z,its,n,r,e⟩:=h.ok I.hok
   exact ⟨its,r,⟨_,n,e,rfl,rfl,rfl⟩,z⟩
 · refine ⟨its.toList,r,⟨o,n,I.kIn a o hk,hc,hd,by simpa using hs⟩,?_⟩
   have e:=r.length
   simp only [Array.length_toList] at e
   omega
theorem Inv.tuple (I:Inv X pins σ H s) (h:SqT X.K H a xs):∃its:List Value,Vals xs its∧IsTup s.heap a its.toArray∧xs.length≤sizeLine:=by
 rcases h with h | ⟨o,its,n,hk,hc,hs,hz,r⟩
 · obtain ⟨z,its,r,p⟩:=h.ok I.hok
   exact ⟨its,r,p,z⟩
 · refine ⟨its.toList,r,⟨o,I.kIn a o hk,hc,n,by simpa using hs⟩,?_⟩
   have e:=r.length
   simp only [Array.length_toList] at e
   omega
theorem Inv.list_inj (I:Inv X pins σ H s) (h:SqL X.K H a xs) (h':SqL X.K H a ys):xs=ys:=by
 obtain ⟨its,r,⟨o,n,e,_,_,d⟩,_⟩:=I.list h
 obtain ⟨its',r',⟨o',n',e',_,_,d'⟩,_⟩:=I.list h'
 rw [e] at e';cases e'
 rw [d] at d'
 injection d' with d1 _
 have:its=its':=by simpa using congrArg Array.toList d1
 subst this
 exact r.inj r'
theorem Inv.tuple_inj (I:Inv X pins σ H s) (h:SqT X.K H a xs) (h':SqT X.K H a ys):xs=ys:=by
 obtain ⟨its,r,⟨o,e,_,n,d⟩,_⟩:=I.tuple h
 obtain ⟨its',r',⟨o',e',_,n',d'⟩,_⟩:=I.tuple h'
 rw [e] at e';cases e'
 rw [d] at d'
 injection d' with d1 _
 have:its=its':=by simpa using congrArg Array.toList d1
 subst this
 exact r.inj r'
end

abbrev Cx.wish (X:Cx) (E:Value→Shared→Prop):Cx:={ X with xe:=E }
abbrev Cx.nox (X:Cx):Cx:=X.wish fun _ _=>False
theorem Cx.Ok.wish {X:Cx} (ok:X.Ok) (E:Value→Shared→Prop):(X.wish E).Ok :=
 ⟨ok.mod,ok.kind,ok.glob,ok.blt,ok.above,ok.inj,ok.has,ok.cab,ok.hd,ok.frames,ok.stk,ok.exf,ok.bs,ok.bsz,ok.noex,ok.exfs,ok.funs,ok.frf⟩
theorem Cx.Ok.unwish {X:Cx}{E:Value→Shared→Prop} (ok:(X.wish E).Ok):X.Ok :=
 ⟨ok.mod,ok.kind,ok.glob,ok.blt,ok.above,ok.inj,ok.has,ok.cab,ok.hd,ok.frames,ok.stk,ok.exf,ok.bs,ok.bsz,ok.noex,ok.exfs,ok.funs,ok.frf⟩
section
variable {X:Cx}{pins:List (Addr×Obj)}{σ:St}{H:Hp}{s:Shared}{E:Value→Shared→Prop}
theorem Inv.wish (I:Inv X pins σ H s) (E:Value→Shared→Prop):Inv (X.wish E) pins σ H s:=⟨I.ok.wish E,I.os,I.bare,I.base,I.loc,I.cell,I.free,I.freeC,I.pin,I.hok,I.len⟩
theorem Inv.unwish (I:Inv (X.wish E) pins σ H s):Inv X pins σ H s:=⟨I.ok.unwish,I.os,I.bare,I.base,I.loc,I.cell,I.free,I.freeC,I.pin,I.hok,I.len⟩
theorem SP.unwish {D:Ends}{f:Flow}{s':Shared} (h:SP (X.wish E) pins D f s'):SP X pins D f s':=by
 cases f with
 | next=>obtain ⟨σ',H',I,q⟩:=h;exact ⟨σ',H',I.unwish,q⟩
 | brk=>obtain ⟨σ',H',I,q⟩:=h;exact ⟨σ',H',I.unwish,q⟩
 | cont=>obtain ⟨σ',H',I,q⟩:=h;exact ⟨σ',H',I.unwish,q⟩
 | ret u=>obtain ⟨v,σ',H',I,r,q⟩:=h;exact ⟨v,σ',H',I.unwish,r,q⟩
theorem PE.nox {e:Expr}{t:TE} (h:PE X.nox e t):PE X e t:=fun pins s σ H Q I hw =>
 wpAny_mono (h pins s σ H Q (I.wish _) hw) (fun _ _ ⟨v,H',I',r,q⟩=>⟨v,H',I'.unwish,r,q⟩) fun _ _ z=>False.elim z
theorem PSs.nox {st:List Stmt}{t:TS} (h:PSs X.nox st t):PSs X st t:=fun pins s σ H D I hw =>
 wpAny_mono (h pins s σ H D (I.wish _) hw) (fun _ _ q=>q.unwish) fun _ _ z=>False.elim z
end

section
variable {X:Cx}{st:Stmt}{rest:List Stmt}{t u:TS}{e:Expr}{te:TE}{pos:Pos}
def tNext:TS:=fun D σ H=>D.nx σ H
def tSeq (t u:TS):TS:=fun D σ H=>t { D with nx:=u D } σ H
theorem pss_nil:PSs X [] tNext:=fun _ _ σ H _ I h=>wpAny_execs_nil ⟨σ,H,I,h⟩
theorem pss_cons (h1:PS X st t) (h2:PSs X rest u):PSs X (st::rest) (tSeq t u):=by
 intro pins s σ H D I h
 refine wpAny_execs_cons (thn (h1 pins s σ H { D with nx:=u D } I h) fun f s1 q=>?_)
 cases f with
 | next =>
   obtain ⟨σ',H',I',q⟩:=q
   exact h2 pins s1 σ' H' D I' q
 | ret v=>exact q
 | brk=>exact q
 | cont=>exact q
theorem pss_one (h1:PS X st t):PSs X [st] t:=by
 intro pins s σ H D I h
 refine wpAny_execs_cons (thn (h1 pins s σ H D I h) fun f s1 q=>?_)
 cases f with
 | next=>exact wpAny_execs_nil q
 | ret v=>exact q
 | brk=>exact q
 | cont=>exact q
theorem Inv.quiet {pins:List (Addr×Obj)}{σ:St}{H:Hp}{s:Shared} (I:Inv X pins σ H s):interactive X.env=false:=by simp [interactive,I.ok.kind]
def tDrop (te:TE):TS:=fun D σ H=>te σ H fun _ H1=>D.nx σ H1
theorem zvk (he:PE X e te) (hs:swapsWith e none pos.line X.env=pure false:=by rfl):PS X (.Expr e pos) (tDrop te):=by
 intro pins s σ H D I h
 exact wpAny_Expr_any (thn (he pins s σ H _ I h) fun v s1 ⟨x,H1,I1,r1,q1⟩=>⟨σ,H1,I1,q1⟩) I.quiet hs
def tRet (te:TE):TS:=fun D σ H=>te σ H D.rt
theorem ps_ret (he:PE X e te):PS X (.Return (some e) pos) (tRet te):=by
 intro pins s σ H D I h
 exact wpAny_Return_some (thn (he pins s σ H _ I h) fun v s1 ⟨x,H1,I1,r1,q1⟩=>⟨x,σ,H1,I1,r1,q1⟩)
def tRetN:TS:=fun D _ H=>D.rt .non H
theorem ps_retN:PS X (.Return none pos) tRetN:=fun _ _ σ H _ I h=>wpAny_Return_none ⟨.non,σ,H,I,rfl,h⟩
def tIfS (c:TT) (t u:TS):TS:=fun D σ H=>c σ H fun b H1=>if b=true then t D σ H1 else u D σ H1
theorem ps_if {c:Expr}{a b:List Stmt}{tc:TT} (hc:PT X c tc) (ha:PSs X a t) (hb:PSs X b u):PS X (.If c a b pos) (tIfS tc t u):=by
 intro pins s σ H D I h
 refine wpAny_If (thn (hc pins s σ H _ I h) fun d s1 ⟨H1,I1,q1⟩=>?_)
 cases d with
 | true=>exact ha pins s1 σ H1 D I1 q1
 | false=>exact hb pins s1 σ H1 D I1 q1
def tNever:TS:=fun _ _ _=>False
theorem ps_never:PS X st tNever:=fun _ _ _ _ _ _ h=>h.elim
end

abbrev TG:=V→St→Hp→(St→Hp→Prop)→Prop
def PG (X:Cx) (target:Expr) (t:TG):Prop :=
 ∀(pins:List (Addr×Obj)) (s:Shared) (σ:St) (H:Hp) (v:V) (u:Value) (Q:St→Hp→Prop),Inv X pins σ H s→RelV v u→t v σ H Q →
   wpAny (model X.prog X.w) X.A (assign target X.env u) (fun _ s'=>∃σ' H',Inv X pins σ' H' s'∧Q σ' H') X.xe s
section
variable {X:Cx}{pos:Pos}
def znt (i:Nat):TG:=fun v σ H Q=>Q (σ.set i (some v)) H
theorem zgz {i:Nat}{x:Str} (hN:X.N.Nodup) (hi:X.N[i]? = some x) (hx:Loc X.env.scope x) (hf:X.fn x=true∨X.env.scope.names.lookup x=some .local:=by first | exact .inl rfl | exact .inr rfl | assumption):PG X (.Name x pos) (znt i):=by
 intro pins s σ H v u Q I r h
 exact wpAny_assign_Name (zqq I hN hi hx r (fun s' I'=>⟨_,H,I',h⟩) hf)
def tAsg (te:TE) (g:TG):TS:=fun D σ H=>te σ H fun x H1=>g x σ H1 D.nx
theorem ps_set {i:Nat}{x:Str}{e:Expr}{te:TE}{pos':Pos} (hN:X.N.Nodup) (hi:X.N[i]? = some x) (hx:Loc X.env.scope x) (he:PE X e te) (hs:swapsWith e (some (.Name x pos')) pos.line X.env=pure false:=by rfl) (hf:X.fn x=true∨X.env.scope.names.lookup x=some .local:=by first | exact .inl rfl | exact .inr rfl | assumption) :
   PS X (.Assign [.Name x pos'] e pos) (tAsg te (znt i)):=by
 intro pins s σ H D I h
 refine wpAny_Assign_Name (thn (he pins s σ H _ I h) fun v s1 ⟨y,H1,I1,r1,q1⟩=>?_) hs
 exact zqq I1 hN hi hx r1 (fun s2 I2=>⟨_,H1,I2,q1⟩) hf
end


structure It where
 go:Nat→Hp→Prop
 yld:Nat→Hp→V→Hp→Prop
 stop:Nat→Hp→Prop
def FpOk (X:Cx) (pins:List (Addr×Obj)) (H:Hp) (b:Addr):Prop :=
 H b=none∧b≠X.env.locals∧b∉X.fs∧(b∈X.ex∨X.s₀.heap.objs.size≤b)∧(∀x c,X.env.cells.lookup x=some c→c≠b)∧∀p∈X.pn++pins,p.1≠b
theorem Inv.fpOk {X:Cx}{pins:List (Addr×Obj)}{σ:St}{H H':Hp}{s:Shared}{b:Addr} (I:Inv X pins σ H s) (hb:s.heap.objs.size≤b) (hn:H' b=none):FpOk X pins H' b:=by
 refine ⟨hn,Nat.ne_of_gt (Nat.lt_of_lt_of_le I.lt hb),I.nofs hb,.inr (Nat.le_trans I.sz hb),fun x c e z=>?_,fun p hp z=>?_⟩
 · obtain ⟨v,q⟩:=I.cell x c e
   exact absurd (Nat.lt_of_lt_of_le q.lt (by rw [z];exact hb)) (Nat.lt_irrefl _)
 · exact absurd (Nat.lt_of_lt_of_le (Heap.lt_size (I.pin p hp).1) (by rw [z];exact hb)) (Nat.lt_irrefl _)
structure Turn (P:Program) (w:World) (K:PySem.W.Frag) (tg:Expr) (J:It) (fp:List Addr) (it:Addr) (tn:Nat→Heap→Prop):Prop where
 mem:it∈fp
 obj:∀i h,tn i h→∀b∈fp,∃o,h.get? b=some o∧∀v,o.data≠.cell v
 keep:∀i h h',tn i h→(∀b∈fp,∀o,h.get? b=some o→h'.get? b=some o)→tn i h'
 item:∀(X:Cx),X.prog=P→X.w=w→X.K=K→X.calm=true→∀(i:Nat) (pins:List (Addr×Obj)) (s:Shared) (σ:St) (H:Hp) (E:Value→Shared→Prop),Inv X pins σ H s→(∀b∈fp,FpOk X pins H b)→tn i s.heap→J.go i H →
   wpAny (model P w) X.A (pyNext (.ref it)) (fun r s1=>∃u,r=some u ∧
     wpAny (model P w) X.A (letOwnedTupleGo tg (.ref it) u) (fun _ s2=>∃x H',Inv X pins σ H' s2∧RelV x u∧J.yld i H x H'∧tn (i + 1) s2.heap∧∀b∈fp,H' b=none) E s1) E s
 done:∀(X:Cx),X.prog=P→X.w=w→X.K=K→X.calm=true→∀(i:Nat) (pins:List (Addr×Obj)) (s:Shared) (σ:St) (H:Hp) (E:Value→Shared→Prop),Inv X pins σ H s→(∀b∈fp,FpOk X pins H b)→tn i s.heap→J.stop i H →
   wpAny (model P w) X.A (pyNext (.ref it)) (fun r s1=>r=none∧Inv X pins σ H s1) E s
 self:∀(A:Around) (i:Nat) (s:Shared) (Q:Value→Shared→Prop) (E:Value→Shared→Prop),tn i s.heap→Q (.ref it) s→wpAny (model P w) A (pyIter (.ref it)) Q E s
abbrev TI:=St→Hp→(It→Hp→Prop)→Prop
def PIE (X:Cx) (pins:List (Addr×Obj)) (σ:St) (tg:Expr) (R:It→Hp→Prop) (itv:Value) (s2:Shared):Prop :=
 ∃(it:Addr) (fp:List Addr) (tn:Nat→Heap→Prop) (J:It) (H':Hp),itv=.ref it∧Inv X pins σ H' s2∧Turn X.prog X.w X.K tg J fp it tn∧tn 0 s2.heap∧(∀b∈fp,FpOk X pins H' b)∧R J H'
def PI (X:Cx) (tg iter:Expr) (wi:TI):Prop :=
 ∀(pins:List (Addr×Obj)) (s:Shared) (σ:St) (H:Hp) (R:It→Hp→Prop),Inv X pins σ H s→wi σ H R →
   wpAny (model X.prog X.w) X.A (eval iter X.env) (fun v s1=>wpAny (model X.prog X.w) X.A (pyIter v) (PIE X pins σ tg R) X.xe s1) X.xe s

theorem go_of {M:Model}{A:Around}{E:Value→Shared→Prop}{s:Shared}{tg:Expr}{it:Addr}{u:Value}{o:Obj}{n:String}{vs:Array Value}{Q:Unit→Shared→Prop} (ho:s.heap.get? it=some o) (hc:o.cls=.type n) (hd:o.data=.fields vs)
   (hn:["enumerate", "zip", "dict_itemiterator", "dict_reverseitemiterator", "odict_iterator", "itertools.zip_longest", "itertools.pairwise"].contains n=false) (hQ:Q () s):wpAny M A (letOwnedTupleGo tg (.ref it) u) Q E s:=by
 unfold letOwnedTupleGo
 cases tg <;> first
   | exact wpAny_pure hQ
   | (cases u <;> first
       | exact wpAny_pure hQ
       | (refine wpAny_bind (wpAny_load ho ?_)
          rw [hc,hd]
          show wpAny M A (if (["enumerate", "zip", "dict_itemiterator", "dict_reverseitemiterator", "odict_iterator", "itertools.zip_longest", "itertools.pairwise"].contains n && vs[0]? == some (rawInt _))=true then _ else _) Q E s
          rw [if_neg (by intro h;rw [hn,Bool.false_and] at h;cases h)]
          exact wpAny_pure hQ))

def Itl (K:PySem.W.Frag) (a:Addr):It :=
 ⟨fun i H=>∃xs x,SqL K H a xs∧xs[i]? = some x,fun i H x H'=>H'=H∧∀xs,SqL K H a xs→xs[i]? = some x,fun i H=>∃xs,SqL K H a xs∧xs.length≤i⟩
def Itr (lo:Int) (n:Nat):It:=⟨fun i _=>i < n,fun i H x H'=>H'=H∧x=.int (lo + i),fun i _=>n≤i⟩
theorem zui {P:Program}{w:World}{K:PySem.W.Frag}{tg:Expr} (a it:Addr):Turn P w K tg (Itl K a) [it] it (fun i h=>h.IsListIter it a i) where
 mem:=by simp
 obj:=fun i h st b hb=>by
   have e:b=it:=by simpa using hb
   subst e
   obtain ⟨o,e,c,d⟩:=st
   exact ⟨o,e,fun v z=>by rw [d] at z;cases z⟩
 keep:=fun i h h' st k=>st.at fun o e=>k it (by simp) o e
 item:=by
   intro X hP hw hK hc i pins s σ H E I hf st hg
   subst hP hw hK
   obtain ⟨xs,x,hq,hx⟩:=hg
   obtain ⟨its,rv,p,hz⟩:=I.list hq
   obtain ⟨u,hu,ru⟩:=rv.get hx
   obtain ⟨f0,f1,f2,f3,f4,f5⟩:=hf it (by simp)
   refine wpAny_pyNext_list_item st p.isList (x:=u) (by simpa using hu) fun h' st' sb=>?_
   have I1:Inv X pins σ H { s with heap:=h' }:=I.turned (t':=s.toks) (fun b o hb e=>(sb.2 b hb).trans e) f0 f1 f3 f4 f5
   obtain ⟨o,e,c,d⟩:=id st'
   exact ⟨u,rfl,go_of (s:={ s with heap:=h' }) e c d (by decide) ⟨x,H,I1,ru,⟨rfl,fun ys hy=>by rw [I.list_inj hy hq];exact hx⟩,st',fun b hb=>(hf b hb).1⟩⟩
 done:=by
   intro X hP hw hK hc i pins s σ H E I hf st hg
   subst hP hw hK
   obtain ⟨xs,hq,hx⟩:=hg
   obtain ⟨its,rv,p,hz⟩:=I.list hq
   obtain ⟨f0,f1,f2,f3,f4,f5⟩:=hf it (by simp)
   have hl:=rv.length
   exact wpAny_pyNext_list_end (I.ok.hd hc) st p.isList (by simp;omega) fun h' eb=>⟨rfl,I.turned (t':=s.toks) (fun b o hb e=>eb b o hb e) f0 f1 f3 f4 f5⟩
 self:=fun _ _ _ _ _ st h=>wpAny_pyIter_listiter st h
theorem zsn {P:Program}{w:World}{K:PySem.W.Frag}{tg:Expr} (it:Addr) (lo:Int) (n:Nat):Turn P w K tg (Itr lo n) [it] it (fun i h=>IsRangeIter h it (lo + (i:Nat) * 1) ((n:Int) - (i:Nat)) 1) where
 mem:=by simp
 obj:=fun i h st b hb=>by
   have e:b=it:=by simpa using hb
   subst e
   exact ⟨_,st,fun v z=>by
     have z':Data.fields _=Data.cell v:=z
     cases z'⟩
 keep:=fun i h h' st k=>k it (by simp) _ st
 item:=by
   intro X hP hw hK hc i pins s σ H E I hf st hg
   subst hP hw hK
   obtain ⟨f0,f1,f2,f3,f4,f5⟩:=hf it (by simp)
   have W:=Walks.range (prog:=X.prog) (w:=X.w) (I.ok.hd hc) it lo 1 n
   refine W.item i s _ _ hg st fun v h' tk hv st' kk=>?_
   obtain ⟨t,rfl⟩:=hv
   have I1:Inv X pins σ H { s with heap:=h',toks:=tk }:=I.turned (fun b o hb e=>kk b o (by simpa using hb) e) f0 f1 f3 f4 f5
   refine ⟨_,rfl,go_of (s:={ s with heap:=h',toks:=tk }) (n:="range_iterator") st' rfl rfl (by decide) ⟨.int (lo + i),H,I1,⟨t,?_⟩,⟨rfl,rfl⟩,st',fun b hb=>(hf b hb).1⟩⟩
   rw [Int.mul_one]
 done:=by
   intro X hP hw hK hc i pins s σ H E I hf st hg
   subst hP hw hK
   obtain ⟨f0,f1,f2,f3,f4,f5⟩:=hf it (by simp)
   exact wpAny_pyNext_range_end (I.ok.hd hc) st (by have:n≤i:=hg;omega) fun h' eb=>⟨rfl,I.turned (t':=s.toks) (fun b o hb e=>eb b o hb e) f0 f1 f3 f4 f5⟩
 self:=fun _ _ _ _ _ st h=>wpAny_pyIter_rangeiter st h
end L2

namespace L2
open PySem PySem.Spec PyProof.Rows
section
variable {X:Cx}{tg:Expr}
def iList (K:PySem.W.Frag) (tl:TE):TI:=fun σ H R=>tl σ H fun x H1=>∃a,x=.ref a∧(∃xs,SqL K H1 a xs)∧R (Itl K a) H1
theorem zlj {l:Expr}{tl:TE} (hl:PE X l tl):PI X tg l (iList X.K tl):=by
 intro pins s σ H R I h
 refine thn (hl pins s σ H _ I h) fun v s1 ⟨x,H1,I1,r1,q1⟩=>?_
 obtain ⟨a,e,⟨xs,hq⟩,q⟩:=q1
 subst e
 cases r1
 obtain ⟨its,rv,p,hz⟩:=I1.list hq
 refine wpAny_pyIter_list p.isList ?_
 refine ⟨s1.heap.objs.size,[s1.heap.objs.size],_,_,H1,rfl,I1.kept (t':=s1.toks) fun b o e=>Heap.get?_push_of_some _ e,zui a _,⟨_,Heap.get?_push_size _ rfl,rfl,rfl⟩,fun b hb=>?_,q⟩
 have e:b=s1.heap.objs.size:=by simpa using hb
 subst e
 exact I1.fpOk (Nat.le_refl _) (I1.hok.fresh (Nat.le_refl _))
theorem range_it {pins:List (Addr×Obj)}{σ:St}{H:Hp}{s:Shared}{R:It→Hp→Prop}{E:Value→Shared→Prop}{lo hi:Int}{t u v:Tok}{tk:Nat} (I:Inv X pins σ H s) (h1:-(2 ^ 62)≤lo) (h2:lo < 2 ^ 62) (h3:-(2 ^ 62)≤hi) (h4:hi < 2 ^ 62)
   (q:R (Itr lo (hi - lo).toNat) H):wpAny (model X.prog X.w) X.A (pyIter (.ref s.heap.objs.size)) (PIE X pins σ tg R) E { s with heap:=s.heap.push { cls:=.type "range",data:=.fields #[.int lo t,.int hi u,.int 1 v] },toks:=tk }:=by
 refine wpAny_pyIter_range (IsRange.new ..) (small_one h1 h2 h3 h4) ?_
 have I1:Inv X pins σ H { s with heap:=s.heap.push { cls:=.type "range",data:=.fields #[.int lo t,.int hi u,.int 1 v] },toks:=tk }:=I.kept fun b o e=>Heap.get?_push_of_some _ e
 refine ⟨(s.heap.push { cls:=.type "range",data:=.fields #[.int lo t,.int hi u,.int 1 v] }).objs.size,[(s.heap.push { cls:=.type "range",data:=.fields #[.int lo t,.int hi u,.int 1 v] }).objs.size],_,_,H,rfl,
   I1.kept (t':=tk) fun b o e=>Heap.get?_push_of_some _ e,zsn _ lo (hi - lo).toNat,?_,fun b hb=>?_,q⟩
 · have e1:lo + ((0:Nat):Int) * 1=lo:=by simp
   have e2:(((hi - lo).toNat:Nat):Int) - ((0:Nat):Int)=Builtin.Range.rangeSize lo hi 1:=by rw [rangeSize_one];split <;> omega
   show IsRangeIter _ _ (lo + ((0:Nat):Int) * 1) ((((hi - lo).toNat:Nat):Int) - ((0:Nat):Int)) 1
   rw [e1,e2]
   exact Heap.get?_push_size _ rfl
 · have e:b=(s.heap.push { cls:=.type "range",data:=.fields #[.int lo t,.int hi u,.int 1 v] }).objs.size:=by simpa using hb
   subst e
   exact I1.fpOk (Nat.le_refl _) (I1.hok.fresh (Nat.le_refl _))
def iRng1 (ta:TA):TI:=fun σ H R=>ta σ H fun vs H1=>∃j:Int,vs=[.int j]∧-(2 ^ 62)≤j∧j < 2 ^ 62∧R (Itr 0 j.toNat) H1
theorem znh {a:Expr}{ta:TA}{p pos:Pos} (hg:Gl X "range") (hm:X.mg "range"=none) (ha:PA X [a] ta) (hs:starEach [a] X.env=[(false,eval a X.env)]:=by rfl):PI X tg (.Call (.Name "range" p) [a] [] pos) (iRng1 ta):=by
 intro pins s σ H R I h
 refine Call_ (zik I hg hm boot_range (PyProof.Rows.callWith_type1 (thn (ha pos pins s σ H _ I h) fun us s1 ⟨vs,H1,I1,r1,q1⟩=>?_) hs rfl))
 obtain ⟨j,e,q1,q2,q⟩:=q1
 subst e
 cases r1 with
 | cons r rr =>
   cases rr
   obtain ⟨t,rfl⟩:=r
   exact call_range_1 (range_it I1 (by omega) (by omega) q1 q2 (by simpa using q))
def tFor (wi:TI) (g:TG) (tb:TS):TS:=fun D σ H=>wi σ H fun J H1=>∃W:Nat→Nat→St→Hp→Prop,(∃m,W 0 m σ H1)∧∀i m σ H,W i m σ H →
 (J.stop i H∧D.nx σ H)∨(J.go i H∧∃N:St→Hp→Prop,(∀σ' H',N σ' H'→∃m',m' < m∧W (i + 1) m' σ' H')∧∀x H',J.yld i H x H'→g x σ H' fun σ2 H2=>tb { D with nx:=N,ct:=N,bk:=D.nx } σ2 H2)
def zqx (fp:List Addr) (h:Heap):List (Addr×Obj):=fp.filterMap fun b=>(h.get? b).map fun o=>(b,o)
theorem zbg {fp:List Addr}{h:Heap}{b:Addr}{o:Obj} (hb:b∈fp) (e:h.get? b=some o):(b,o)∈zqx fp h:=List.mem_filterMap.mpr ⟨b,hb,by rw [e];rfl⟩
theorem zvt {fp:List Addr}{h:Heap}{p:Addr×Obj} (hp:p∈zqx fp h):p.1∈fp∧h.get? p.1=some p.2:=by
 obtain ⟨b,hb,e⟩:=List.mem_filterMap.mp hp
 cases q:h.get? b with
 | none=>rw [q] at e;cases e
 | some o =>
   rw [q] at e
   have e':(b,o)=p:=Option.some.inj e
   subst e'
   exact ⟨hb,q⟩
theorem Inv.pinned {pins:List (Addr×Obj)}{σ:St}{H:Hp}{s:Shared}{fp:List Addr} (I:Inv X pins σ H s) (hf:∀b∈fp,FpOk X pins H b) (ho:∀b∈fp,∃o,s.heap.get? b=some o∧∀v,o.data≠.cell v):Inv X (pins++zqx fp s.heap) σ H s :=
 I.pins_of fun p hp=>(List.mem_append.mp hp).elim (fun z=>I.pin p (List.mem_append_right _ z)) fun z=>by
   obtain ⟨hb,e⟩:=zvt z
   obtain ⟨f0,f1,f2,_⟩:=hf p.1 hb
   obtain ⟨o,e',d⟩:=ho p.1 hb
   rw [e] at e';cases e'
   exact ⟨e,f0,f1,f2,d⟩
theorem Inv.unpinned {pins pl:List (Addr×Obj)}{σ:St}{H:Hp}{s:Shared} (I:Inv X (pins++pl) σ H s):Inv X pins σ H s:=I.pins_of fun p hp=>I.pin p (List.mem_append_right _ (List.mem_append_left _ hp))
theorem ps_for {iter:Expr}{body:List Stmt}{wi:TI}{g:TG}{tb:TS}{pos:Pos} (hp:PassesOwn (model X.prog X.w) X.A X.env X.xe) (hc:X.calm=true) (hi:PI X tg iter wi) (hg:PG X tg g) (hb:PSs X body tb)
   (hs:∀x,foldedSetIterable iter X.env x=pure x:=by intro _;rfl):PS X (.For tg iter body [] pos) (tFor wi g tb):=by
 intro pins s σ H D I h
 refine wpAny_For (thn (hi pins s σ H _ I h) fun v s1 h1=>thn h1 fun itv s2 h2=>?_) hs
 obtain ⟨it,fp,tn,J,H2,e,I2,T,st2,f2,W,⟨m0,w0⟩,turn⟩:=h2
 subst e
 -- what stays true of the iterator's objects through the loop
 have stat:∀{H':Hp},(∀b∈fp,H' b=none)→∀b∈fp,FpOk X pins H' b:=fun hn b hb=>⟨hn b hb,(f2 b hb).2⟩
 refine codeAny_forLoop_any (fun n s'=>∃i σ' H',Inv X pins σ' H' s'∧tn i s'.heap∧(∀b∈fp,H' b=none)∧W i n σ' H') ?_ m0 ⟨0,σ,H2,I2,st2,fun b hb=>(f2 b hb).1,w0⟩
 rintro n s3 ⟨i,σ3,H3,I3,st3,fr3,w3⟩
 rcases turn i n σ3 H3 w3 with ⟨stop,qn⟩ | ⟨go,N,hN,step⟩
 · refine wpAny_passesOwn hp (thn (T.done X rfl rfl rfl hc i pins s3 σ3 H3 X.xe I3 (stat fr3) st3 stop) fun r s4 ⟨hr,I4⟩=>?_)
   subst hr
   exact wpAny_execs_nil ⟨σ3,H3,I4,qn⟩
 · refine wpAny_passesOwn hp (thn (T.item X rfl rfl rfl hc i pins s3 σ3 H3 X.xe I3 (stat fr3) st3 go) fun r s4 ⟨u,hr,h4⟩=>?_)
   subst hr
   refine wpAny_passesOwn hp (thn h4 fun _ s5 ⟨x,H5,I5,r5,y5,st5,fr5⟩=>?_)
   have I5':=I5.pinned (stat fr5) (T.obj _ _ st5)
   refine wpAny_passesOwn hp (thn (hg _ s5 σ3 H5 x u _ I5' r5 (step x H5 y5)) fun _ s6 ⟨σ6,H6,I6,q6⟩=>?_)
   refine wpAny_passesOwn hp (thn (hb _ s6 σ6 H6 _ I6 q6) fun f s7 q7=>?_)
   have again:∀{σ7:St}{H7:Hp},Inv X (pins++zqx fp s5.heap) σ7 H7 s7→N σ7 H7→∃m,m < n∧∃i σ' H',Inv X pins σ' H' s7∧tn i s7.heap∧(∀b∈fp,H' b=none)∧W i m σ' H':=fun {σ7 H7} I7 n7=>by
     obtain ⟨m',hm,w7⟩:=hN σ7 H7 n7
     refine ⟨m',hm,i + 1,σ7,H7,I7.unpinned,T.keep _ _ _ st5 fun b hb o e=>(I7.pin (b,o) (List.mem_append_right _ (List.mem_append_right _ (zbg hb e)))).1,fun b hb=>?_,w7⟩
     obtain ⟨o,e,d⟩:=T.obj _ _ st5 b hb
     exact (I7.pin (b,o) (List.mem_append_right _ (List.mem_append_right _ (zbg hb e)))).2.1
   cases f with
   | next=>obtain ⟨σ7,H7,I7,n7⟩:=q7;exact again I7 n7
   | cont=>obtain ⟨σ7,H7,I7,n7⟩:=q7;exact again I7 n7
   | brk=>obtain ⟨σ7,H7,I7,q7⟩:=q7;exact ⟨σ7,H7,I7.unpinned,q7⟩
   | ret v=>obtain ⟨x7,σ7,H7,I7,r7,q7⟩:=q7;exact ⟨x7,σ7,H7,I7.unpinned,r7,q7⟩
end

theorem for_list {K:PySem.W.Frag}{a:Addr}{xs:List V}{g:TG}{tb:TS}{D:Ends}{σ:St}{H:Hp} (Pv:Nat→St→Hp→Prop) (h0:Pv 0 σ H) (hl:∀i σ H,i≤xs.length→Pv i σ H→SqL K H a xs)
   (hs:∀i x σ H,xs[i]? = some x→Pv i σ H→g x σ H fun σ2 H2=>tb { D with nx:=Pv (i + 1),ct:=Pv (i + 1),bk:=D.nx } σ2 H2) (hd:∀σ H,Pv xs.length σ H→D.nx σ H) :
   ∃W:Nat→Nat→St→Hp→Prop,(∃m,W 0 m σ H)∧∀i m σ H,W i m σ H →
     ((Itl K a).stop i H∧D.nx σ H)∨((Itl K a).go i H∧∃N:St→Hp→Prop,(∀σ' H',N σ' H'→∃m',m' < m∧W (i + 1) m' σ' H')∧∀x H',(Itl K a).yld i H x H'→g x σ H' fun σ2 H2=>tb { D with nx:=N,ct:=N,bk:=D.nx } σ2 H2):=by
 refine ⟨fun i m σ H=>m=xs.length - i∧i≤xs.length∧Pv i σ H,⟨xs.length,by simp,Nat.zero_le _,h0⟩,?_⟩
 rintro i m σ H ⟨rfl,hi,p⟩
 have q:=hl i σ H hi p
 by_cases hlt:i < xs.length
 · refine .inr ⟨⟨xs,xs[i],q,by simp [hlt]⟩,Pv (i + 1),fun σ' H' p'=>⟨xs.length - (i + 1),by omega,rfl,hlt,p'⟩,fun x H' y=>?_⟩
   obtain ⟨e,y⟩:=y
   subst e
   exact hs i x σ _ (y xs q) p
 · have e:i=xs.length:=by omega
   subst e
   exact .inl ⟨⟨xs,q,Nat.le_refl _⟩,hd σ H p⟩
theorem zwt {lo:Int}{n:Nat}{g:TG}{tb:TS}{D:Ends}{σ:St}{H:Hp} (Pv:Nat→St→Hp→Prop) (h0:Pv 0 σ H)
   (hs:∀i σ H,i < n→Pv i σ H→g (.int (lo + i)) σ H fun σ2 H2=>tb { D with nx:=Pv (i + 1),ct:=Pv (i + 1),bk:=D.nx } σ2 H2) (hd:∀σ H,Pv n σ H→D.nx σ H) :
   ∃W:Nat→Nat→St→Hp→Prop,(∃m,W 0 m σ H)∧∀i m σ H,W i m σ H →
     ((Itr lo n).stop i H∧D.nx σ H)∨((Itr lo n).go i H∧∃N:St→Hp→Prop,(∀σ' H',N σ' H'→∃m',m' < m∧W (i + 1) m' σ' H')∧∀x H',(Itr lo n).yld i H x H'→g x σ H' fun σ2 H2=>tb { D with nx:=N,ct:=N,bk:=D.nx } σ2 H2):=by
 refine ⟨fun i m σ H=>m=n - i∧i≤n∧Pv i σ H,⟨n,by simp,Nat.zero_le _,h0⟩,?_⟩
 rintro i m σ H ⟨rfl,hi,p⟩
 by_cases hlt:i < n
 · refine .inr ⟨hlt,Pv (i + 1),fun σ' H' p'=>⟨n - (i + 1),by omega,rfl,hlt,p'⟩,fun x H' y=>?_⟩
   obtain ⟨e,y⟩:=y
   subst e y
   exact hs i σ _ hlt p
 · have e:i=n:=by omega
   subst e
   exact .inl ⟨Nat.le_refl _,hd σ H p⟩
end L2

namespace L2
open PySem PySem.Spec PyProof.Rows

abbrev R2:=V→V→Hp→VK→Prop
def OpR (X:Cx) (f:Value→Value→Sem Value) (r:R2):Prop :=
 ∀(pins:List (Addr×Obj)) (s:Shared) (σ:St) (H:Hp) (x y:V) (v u:Value) (Q:VK),Inv X pins σ H s→RelV x v→RelV y u→r x y H Q →
   wpAny (model X.prog X.w) X.A (f v u) (EP X pins σ Q) X.xe s
def UnR (X:Cx) (f:Value→Sem Value) (r:V→Hp→VK→Prop):Prop :=
 ∀(pins:List (Addr×Obj)) (s:Shared) (σ:St) (H:Hp) (x:V) (v:Value) (Q:VK),Inv X pins σ H s→RelV x v→r x H Q →
   wpAny (model X.prog X.w) X.A (f v) (EP X pins σ Q) X.xe s
def CallR (X:Cx) (f:Value) (r:List V→Hp→VK→Prop):Prop :=
 ∀(pins:List (Addr×Obj)) (s:Shared) (σ:St) (H:Hp) (xs:List V) (us:List Value) (Q:VK),Inv X pins σ H s→Vals xs us→r xs H Q →
   wpAny (model X.prog X.w) X.A (call f us) (EP X pins σ Q) X.xe s
def tOp (r:R2) (ta tb:TE):TE:=fun σ H Q=>ta σ H fun x H1=>tb σ H1 fun y H2=>r x y H2 Q
def tUn (r:V→Hp→VK→Prop) (ta:TE):TE:=fun σ H Q=>ta σ H fun x H1=>r x H1 Q
def rI (C:Int→Int→Prop) (g:Int→Int→V):R2:=fun x y H Q=>∃i j,x=.int i∧y=.int j∧C i j∧Q (g i j) H
def rI0 (g:Int→Int→V):R2:=fun x y H Q=>∃i j,x=.int i∧y=.int j∧Q (g i j) H
def rU (g:Int→V):V→Hp→VK→Prop:=fun x H Q=>∃i,x=.int i∧Q (g i) H

section
variable {X:Cx}{a b c:Expr}{ta tb tc:TE}{pos:Pos}

theorem binT (ha:PE X a ta) (hb:PE X b tb) {pins:List (Addr×Obj)}{s:Shared}{σ:St}{H:Hp}{R:V→V→Hp→Prop} (I:Inv X pins σ H s)
   (h:ta σ H fun x H1=>tb σ H1 fun y H2=>R x y H2) {Q:Value→Shared→Prop}{f:Value→Value→Sem Value}
   (hf:∀v u s2 x y H2,Inv X pins σ H2 s2→RelV x v→RelV y u→R x y H2→wpAny (model X.prog X.w) X.A (f v u) Q X.xe s2) :
   wpAny (model X.prog X.w) X.A (eval a X.env) (fun v s₁=>wpAny (model X.prog X.w) X.A (eval b X.env) (fun u s₂=>wpAny (model X.prog X.w) X.A (f v u) Q X.xe s₂) X.xe s₁) X.xe s:=by
 refine thn (ha pins s σ H _ I h) fun v s1 ⟨x,H1,I1,r1,q1⟩=>?_
 refine thn (hb pins s1 σ H1 _ I1 q1) fun u s2 ⟨y,H2,I2,r2,q2⟩=>?_
 exact hf v u s2 x y H2 I2 r1 r2 q2

theorem pe_op {op:Operator}{r:R2} (ho:OpR X (binaryOp op) r) (ha:PE X a ta) (hb:PE X b tb):PE X (.BinOp a op b pos) (tOp r ta tb):=by
 intro pins s σ H Q I h
 exact wpAny_BinOp (binT ha hb I h fun v u s2 x y H2 I2 rx ry q=>ho pins s2 σ H2 x y v u Q I2 rx ry q)
theorem pe_un {op:UnaryOp}{r:V→Hp→VK→Prop} (ho:UnR X (unaryOp op) r) (ha:PE X a ta):PE X (.UnaryOp op a pos) (tUn r ta):=by
 intro pins s σ H Q I h
 exact UnaryOp_ (thn (ha pins s σ H _ I h) fun v s1 ⟨x,H1,I1,r1,q1⟩=>ho pins s1 σ H1 x v Q I1 r1 q1)
theorem opI {f:Value→Value→Sem Value}{C:Int→Int→Prop}{g:Int→Int→Int}
   (rule:∀(i j:Int) (t u:Tok) (s:Shared) (Q:Value→Shared→Prop) (E:Value→Shared→Prop),C i j→Q (.int (g i j) s.toks) { s with toks:=s.toks + 1 }→wpAny (model X.prog X.w) X.A (f (.int i t) (.int j u)) Q E s) :
   OpR X f (rI C fun i j=>.int (g i j)):=by
 intro pins s σ H x y v u Q I rx ry h
 obtain ⟨i,j,rfl,rfl,hc,q⟩:=h
 obtain ⟨t,rfl⟩:=rx
 obtain ⟨t',rfl⟩:=ry
 exact rule i j t t' s _ _ hc ⟨.int (g i j),H,I.tok _,⟨_,rfl⟩,q⟩
theorem opI0 {f:Value→Value→Sem Value}{g:Int→Int→Int}
   (rule:∀(i j:Int) (t u:Tok) (s:Shared) (Q:Value→Shared→Prop) (E:Value→Shared→Prop),Q (.int (g i j) s.toks) { s with toks:=s.toks + 1 }→wpAny (model X.prog X.w) X.A (f (.int i t) (.int j u)) Q E s) :
   OpR X f (rI0 fun i j=>.int (g i j)):=by
 intro pins s σ H x y v u Q I rx ry h
 obtain ⟨i,j,rfl,rfl,q⟩:=h
 obtain ⟨t,rfl⟩:=rx
 obtain ⟨t',rfl⟩:=ry
 exact rule i j t t' s _ _ ⟨.int (g i j),H,I.tok _,⟨_,rfl⟩,q⟩
theorem opB0 {f:Value→Value→Sem Value}{g:Int→Int→Bool}
   (rule:∀(i j:Int) (t u:Tok) (s:Shared) (Q:Value→Shared→Prop) (E:Value→Shared→Prop),Q (.bool (g i j)) s→wpAny (model X.prog X.w) X.A (f (.int i t) (.int j u)) Q E s) :
   OpR X f (rI0 fun i j=>.bl (g i j)):=by
 intro pins s σ H x y v u Q I rx ry h
 obtain ⟨i,j,rfl,rfl,q⟩:=h
 obtain ⟨t,rfl⟩:=rx
 obtain ⟨t',rfl⟩:=ry
 exact rule i j t t' s _ _ ⟨.bl (g i j),H,I,rfl,q⟩

def CDiv (i j:Int):Prop:=0 < j∧j < 1073741824
def CPow (i j:Int):Prop:=0≤j∧j≤1000000∧i.natAbs < 2 ^ 64
def CMul (i j:Int):Prop:=(-(2 ^ 64) < i∧i < 2 ^ 64)∨(-(2 ^ 64) < j∧j < 2 ^ 64)
theorem CMul.ok {i j:Int} (h:CMul i j):IntMulOk i j:=by
 rcases h with ⟨h1,h2⟩ | ⟨h1,h2⟩
 · exact .of_left (intBits_le_64 h1 h2)
 · exact .of_right (intBits_le_64 h1 h2)
theorem op_add:OpR X (binaryOp .Add) (rI0 fun i j=>.int (i + j)):=opI0 fun _ _ _ _ _ _ _ q=>add_int q
theorem op_sub:OpR X (binaryOp .Sub) (rI0 fun i j=>.int (i - j)):=opI0 fun _ _ _ _ _ _ _ q=>sub_int q
theorem op_fdiv:OpR X (binaryOp .FloorDiv) (rI CDiv fun i j=>.int (i / j)):=opI fun i j _ _ _ _ _ hc q=>by
 have h1:(0:Int) < j:=hc.1
 have h2:j < 1073741824:=hc.2
 exact floordiv_int (by omega) (by rw [Int.fdiv_eq_ediv_of_nonneg i (by omega)];exact q) (.inl (PyProof.noPylong_small (by omega)))
theorem op_mod:OpR X (binaryOp .Mod) (rI (fun _ j=>0 < j) fun i j=>.int (i % j)):=opI fun i j _ _ _ _ _ hc q=>by
 have h1:(0:Int) < j:=hc
 exact mod_int' (by omega) (by rw [Int.fmod_eq_emod_of_nonneg i (by omega)];exact q)
theorem op_pow:OpR X (binaryOp .Pow) (rI CPow fun i j=>.int (i ^ j.toNat)):=opI fun _ _ _ _ _ _ _ hc q=>pow_int_small hc.1 hc.2.1 hc.2.2 q
theorem unI {f:Value→Sem Value}{g:Int→Int}
   (rule:∀(i:Int) (t:Tok) (s:Shared) (Q:Value→Shared→Prop) (E:Value→Shared→Prop),Q (.int (g i) s.toks) { s with toks:=s.toks + 1 }→wpAny (model X.prog X.w) X.A (f (.int i t)) Q E s) :
   UnR X f (rU fun i=>.int (g i)):=by
 intro pins s σ H x v Q I rx h
 obtain ⟨i,rfl,q⟩:=h
 obtain ⟨t,rfl⟩:=rx
 exact rule i t s _ _ ⟨.int (g i),H,I.tok _,⟨_,rfl⟩,q⟩
theorem un_neg:UnR X (unaryOp .USub) (rU fun i=>.int (-i)):=unI fun _ _ _ _ _ q=>neg_int q
end

section
variable {X:Cx}{a b c:Expr}{ta tb tc:TE}{pos:Pos}
theorem zwx {pins:List (Addr×Obj)}{σ:St}{H:Hp}{s:Shared}{Q:VK}{k k':Bool} (I:Inv X pins σ H s) (q:Q (.bl k) H) (e:k=k'):EP X pins σ Q (.bool k') s:=by
 subst e
 exact ⟨.bl k,H,I,rfl,q⟩
theorem op_lt:OpR X (compareOp .Lt) (rI0 fun i j=>.bl (decide (i < j))):=opB0 fun _ _ _ _ _ _ _ q=>lt_int q
theorem zsz:OpR X (compareOp .LtE) (rI0 fun i j=>.bl (decide (i≤j))):=opB0 fun _ _ _ _ _ _ _ q=>le_int q
theorem op_gt:OpR X (compareOp .Gt) (rI0 fun i j=>.bl (decide (j < i))):=opB0 fun _ _ _ _ _ _ _ q=>gt_int q
theorem op_ge:OpR X (compareOp .GtE) (rI0 fun i j=>.bl (decide (j≤i))):=opB0 fun _ _ _ _ _ _ _ q=>ge_int q
theorem zvq:OpR X (compareOp .Lt) (fun x y H Q=>∃i j,x=.str i∧y=.str j∧Q (.bl (decide (i.cps.toList < j.cps.toList))) H):=by
 intro pins s σ H x y v u Q I rx ry h
 obtain ⟨i,j,rfl,rfl,q⟩:=h
 obtain ⟨t,rfl⟩:=rx
 obtain ⟨t',rfl⟩:=ry
 exact lt_str (zwx I q rfl)
theorem op_isN:OpR X (compareOp .Is) (fun x y H Q=>y=.non∧Q (.bl (decide (x=.non))) H):=by
 intro pins s σ H x y v u Q I rx ry h
 obtain ⟨rfl,q⟩:=h
 cases ry
 refine is_none_gen (zwx I q ?_)
 cases x <;> first
   | (cases rx;rfl)
   | (obtain ⟨t,rfl⟩:=rx;rfl)
theorem op_notN:OpR X (compareOp .IsNot) (fun x y H Q=>y=.non∧Q (.bl (!decide (x=.non))) H):=by
 intro pins s σ H x y v u Q I rx ry h
 obtain ⟨rfl,q⟩:=h
 cases ry
 refine isnot_none_gen (zwx I q ?_)
 cases x <;> first
   | (cases rx;rfl)
   | (obtain ⟨t,rfl⟩:=rx;rfl)

theorem OpR.or {f:Value→Value→Sem Value}{r r':R2} (h:OpR X f r) (h':OpR X f r'):OpR X f (fun x y H Q=>r x y H Q∨r' x y H Q):=by
 intro pins s σ H x y v u Q I rx ry q
 rcases q with q | q
 · exact h pins s σ H x y v u Q I rx ry q
 · exact h' pins s σ H x y v u Q I rx ry q

theorem zee (b:Expr) {op:CmpOp} (h:op≠.In:=by decide) (h2:op≠.NotIn:=by decide):behindInMarks op b=false:=by
 have e1:(op == CmpOp.In)=false:=by cases op <;> first | rfl | exact absurd rfl h
 have e2:(op == CmpOp.NotIn)=false:=by cases op <;> first | rfl | exact absurd rfl h2
 cases b <;> simp [behindInMarks,e1,e2]
theorem pe_cmpR {op:CmpOp}{r:R2} (ho:OpR X (compareOp op) r) (ha:PE X a ta) (hb:PE X b tb) (hm:behindInMarks op b=false):PE X (.Compare a [op] [b] pos) (tOp r ta tb):=by
 intro pins s σ H Q I h
 exact wpAny_Compare1 (binT ha hb I h fun v u s2 x y H2 I2 rx ry q=>ho pins s2 σ H2 x y v u Q I2 rx ry q) hm
def tTest (t:TE):TT:=fun σ H Q=>t σ H fun x H'=>∃k,x=.bl k∧Q k H'
theorem pt_cmpR {op:CmpOp}{r:R2} (ho:OpR X (compareOp op) r) (ha:PE X a ta) (hb:PE X b tb) (hm:behindInMarks op b=false):PT X (.Compare a [op] [b] pos) (tTest (tOp r ta tb)):=by
 intro pins s σ H Q I h
 refine wpAny_isTrue_Compare1 (thn (ha pins s σ H _ I h) fun v s1 ⟨x,H1,I1,r1,q1⟩=>thn (hb pins s1 σ H1 _ I1 q1) fun u s2 ⟨y,H2,I2,r2,q2⟩ =>
   thn (ho pins s2 σ H2 x y v u _ I2 r1 r2 q2) fun c s3 ⟨z,H3,I3,r3,k,e,q3⟩=>?_) hm
 subst e
 cases r3
 exact wpAny_truthy_bool ⟨H3,I3,q3⟩
def tChain (r r':R2) (ta tb tc:TE):TE:=fun σ H Q=>ta σ H fun x H1=>tb σ H1 fun y H2=>r x y H2 fun z H3=>∃k,z=.bl k ∧
 (if k=true then tc σ H3 fun w' H4=>r' y w' H4 Q else Q (.bl false) H3)
theorem pt_chain {op op':CmpOp}{r r':R2} (ho:OpR X (compareOp op) r) (ho':OpR X (compareOp op') r') (ha:PE X a ta) (hb:PE X b tb) (hc:PE X c tc)
   (hm:lastMarks [op,op'] [b,c]=false:=by with_unfolding_all rfl):PT X (.Compare a [op,op'] [b,c] pos) (tTest (tChain r r' ta tb tc)):=by
 intro pins s σ H Q I h
 refine isTrue_chain (thn (ha pins s σ H _ I h) fun v s1 ⟨x,H1,I1,r1,q1⟩=>test_link (thn (hb pins s1 σ H1 _ I1 q1) fun u s2 ⟨y,H2,I2,r2,q2⟩ =>
   thn (ho pins s2 σ H2 x y v u _ I2 r1 r2 q2) fun d s3 ⟨z,H3,I3,r3,k,e,q3⟩=>?_)) hm
 subst e
 cases r3
 refine wpAny_truthy_bool ?_
 cases k with
 | false =>
   obtain ⟨k',e',q'⟩:=q3
   cases e'
   exact ite_ff ⟨H3,I3,q'⟩
 | true =>
   refine ite_tt (test_last (thn (hc pins s3 σ H3 _ I3 q3) fun w' s4 ⟨z',H4,I4,r4,q4⟩=>thn (ho' pins s4 σ H4 y z' u w' _ I4 r2 r4 q4) fun d' s5 ⟨z2,H5,I5,r5,k2,e2,q5⟩=>?_))
   subst e2
   cases r5
   exact wpAny_truthy_bool ⟨H5,I5,q5⟩

theorem znk:(sizeLine:Nat) < 2 ^ 63:=by rw [sizeLine_eq];decide
theorem op_add_str:OpR X (binaryOp .Add) (fun x y H Q=>∃i j,x=.str i∧y=.str j∧i.length + j.length≤sizeLine∧Q (.str (i++j)) H):=by
 intro pins s σ H x y v u Q I rx ry h
 obtain ⟨i,j,rfl,rfl,hz,q⟩:=h
 obtain ⟨t,rfl⟩:=rx
 obtain ⟨t',rfl⟩:=ry
 exact add_str (fun t' tk=>⟨.str (i++j),H,I.tok _,⟨_,rfl⟩,q⟩) hz
theorem vals1 {x:V}{us:List Value} (r:Vals [x] us):∃u,us=[u]∧RelV x u:=by
 cases r with
 | cons r1 r2=>cases r2;exact ⟨_,rfl,r1⟩
theorem vals2 {x y:V}{us:List Value} (r:Vals [x,y] us):∃u w',us=[u,w']∧RelV x u∧RelV y w':=by
 cases r with
 | cons r1 r2 =>
   cases r2 with
   | cons r3 r4=>cases r4;exact ⟨_,_,rfl,r1,r3⟩
theorem call_abs:CallR X (.builtin "abs") (fun xs H Q=>∃i,xs=[.int i]∧Q (.int (if i < 0 then -i else i)) H):=by
 intro pins s σ H xs us Q I r h
 obtain ⟨i,rfl,q⟩:=h
 obtain ⟨u,rfl,t,rfl⟩:=vals1 r
 exact call_abs_int fun u tk=>⟨.int (if i < 0 then -i else i),H,I.tok _,⟨_,rfl⟩,q⟩
theorem call_max2 (hc:X.calm=true):CallR X (.builtin "max") (fun xs H Q=>∃i j,xs=[.int i,.int j]∧Q (.int (if j > i then j else i)) H):=by
 intro pins s σ H xs us Q I r h
 obtain ⟨i,j,rfl,q⟩:=h
 obtain ⟨u,w',rfl,⟨t,rfl⟩,⟨t',rfl⟩⟩:=vals2 r
 refine max_two_ints (I.ok.hd hc) fun h' tk k=>⟨_,H,I.kept k,?_,q⟩
 by_cases hj:j > i
 · rw [if_pos hj,if_pos hj];exact ⟨_,rfl⟩
 · rw [if_neg hj,if_neg hj];exact ⟨_,rfl⟩
end
end L2

namespace L2
open PySem PySem.Spec PyProof.Rows

structure ObjM (h:Heap) (x dx C:Addr) (mA:Str→Option Value):Prop where
 obj:h.get? x=some (PySem.W.instObj C dx)
 ns:h.Ns1 dx mA
 ne:dx≠x

theorem zwa {h:Heap}{dx:Addr}{mA:Str→Option Value} (n:h.Ns1 dx mA):∃od,h.get? dx=some od∧∀name,PySem.W.lookIn name od=some (mA name):=by
 obtain ⟨o,es,ep,ho,hd,hk,_,hm⟩:=n
 refine ⟨o,ho,fun name=>?_⟩
 have e:=hm name
 unfold nsFind findBy at e
 rw [← Array.find?_toList] at e
 unfold PySem.W.lookIn
 rw [hd]
 dsimp only
 split
 · rename_i y q
   rw [q] at e
   exact congrArg some e
 · rename_i q
   rw [q] at e
   have a:es.toList.any (·.refKey)=false:=by
     rw [List.any_eq_false]
     intro y hy
     obtain ⟨z,t,hkey⟩:=hk y (Array.mem_toList_iff.mp hy)
     simp [DictEntry.refKey,hkey]
   have a':¬ es.toList.any (·.refKey)=true:=by rw [a];exact Bool.false_ne_true
   rw [if_neg a']
   exact congrArg some e

theorem ObjM.look {h:Heap}{x dx C:Addr}{mA:Str→Option Value} (I:ObjM h x dx C mA):∃od,PySem.W.InstAt h x (PySem.W.instObj C dx) C (some od)∧∀name,PySem.W.lookIn name od=some (mA name) :=
 let ⟨od,ho,hl⟩:=zwa I.ns
 ⟨od,⟨I.obj,rfl,rfl,ho⟩,hl⟩

section
variable {prog:Program}{w:World}{A:Around}{E:Value→Shared→Prop}{s:Shared}{K:PySem.W.Frag}{x dx C f:Addr}{mA:Str→Option Value}{name:Str}{v:Value}

theorem get_map {expr:Bool}{Q:Value→Shared→Prop} (X:K.In s.heap) (I:ObjM s.heap x dx C mA) (hg:PySem.W.plainGet K C name=true) (hh:PySem.W.hasDictIn K C=true)
   (ha:PySem.W.findIn K (.ref C) name=some none) (hv:mA name=some v) (hv':PySem.W.handedIn v=true) (h:Q v { s with toks:=s.toks + 1 }) :
   wpAny (model prog w) A (getAttr (.ref x) name expr) Q E s:=by
 obtain ⟨od,J,hl⟩:=I.look
 exact PySem.W.get_value X J (PySem.W.plainGet_of hg).1 (PySem.W.findObj_own hh ha rfl (by rw [hl,hv])) hv' h

theorem get_meth {pl:Sem Bool}{Q:Value×List Value→Shared→Prop} (X:K.In s.heap) (I:ObjM s.heap x dx C mA) (hg:PySem.W.plainGet K C name=true)
   (hf:PySem.W.findIn K (.ref C) name=some (some (.ref f))) (ht:PySem.W.isFn K (.ref f)=true) (hv:mA name=none) (h:Q (.ref f,[.ref x]) s) :
   wpAny (model prog w) A (getMethod (.ref x) name pl) Q E s:=by
 obtain ⟨od,J,hl⟩:=I.look
 exact PySem.W.method_fn X J (PySem.W.plainGet_of hg).1 (PySem.W.plainGet_of hg).2 hf (beq_iff_eq.mp ht) (by show (PySem.W.lookIn name od).map (·.isSome)=some false;rw [hl,hv];rfl) h

theorem set_map {ns:List Str}{Q:Unit→Shared→Prop} (X:K.In s.heap) (I:ObjM s.heap x dx C mA)
   (hs:PySem.W.findIn K (.ref C) "__setattr__"=some (some (.builtin "object.__setattr__"))) (hp:PySem.W.plainOver K C=true) (ht:PySem.W.takerIn K C name=some none) (hh:PySem.W.hasDictIn K C=true)
   (hw:PySem.Within mA ns) (hsz:ns.length≤sizeLine)
   (h:∀h',ObjM h' x dx C (fun y=>if y=name then some v else mA y)→Heap.SameBut dx s.heap h'→Q () { s with heap:=h',toks:=s.toks + 2 }) :
   wpAny (model prog w) A (setAttr (.ref x) name v) Q E s:=by
 obtain ⟨od,J,hl⟩:=I.look
 refine PySem.W.set_plain X J hs (PySem.W.osa_open (s:={ s with toks:=s.toks + 1 }) (r:=none) X J hp ht fun b=>?_)
 obtain ⟨cd,hc,hd'⟩:=PySem.W.any_some hh
 have hx:s.heap.get? x=some ⟨.ref C,some dx,.plain,#[]⟩:=I.obj
 refine wpAny_bind (wpAny_pure (wpAny_bind (wpAny_bind (wpAny_loadPart hx (wpAny_bind (PySem.W.Looks.here (s:={ s with toks:=s.toks + 1 }) (PySem.W.looks_clsIn X hc) ?_))))))
 rw [hd']
 refine wpAny_pure (a:=some dx) (wpAny_bind (wpAny_pure (wpAny_bind ?_)))
 refine wpAny_nsSet1 (s:={ s with toks:=s.toks + 1 }) I.ns fun h' hn2 hs2=>?_
 obtain ⟨oD,esD,epD,hoD,hdD,hcD⟩:=hn2.count (PySem.Within.cons name v hw)
 refine wpAny_bind (wpAny_lookBehind hoD (by rw [hdD];exact pastItsLine_dict (Nat.le_trans hcD (by rw [List.length_cons];omega))) ?_)
 exact wpAny_pure (h _ ⟨(hs2.2 _ (Ne.symm I.ne)).trans I.obj,hn2,I.ne⟩ hs2)

theorem make_map {R:Result→Shared→Prop}{vs:List Value}{kw:List (Str×Value)} (X:K.In s.heap) (hm:PySem.W.makesIn K C=true)
   (hi:PySem.W.findIn K (.ref C) "__init__"=some (some (.ref f))) (hf:PySem.W.typeIn K (.ref f)=some (.type "function"))
   (h:codeAny (model prog w) (A.under (.builtin "type.__call__" ⟨.ref C::vs,kw⟩)) (.call (.ref f) ⟨.ref (s.heap.objs.size + 1)::vs,kw⟩) (PySem.W.InitBack (s.heap.objs.size + 1) R)
     { s with heap:=(s.heap.push PySem.W.emptyDict).push (PySem.W.instObj C s.heap.objs.size) }) :
   codeAny (model prog w) A (.call (.ref C) ⟨vs,kw⟩) R s:=by
 obtain ⟨hh,g,d,t,os⟩:=s
 exact PySem.W.make_core (PySem.W.makes_of X hm) (PySem.W.looks_findIn X hi) (fun self=>PySem.W.bind_fn X self hf) (.inl rfl) h
end

def putF (f:Str) (v:V):List (Str×V)→List (Str×V)
 | []=>[(f,v)]
 | (g,x)::r=>if g=f then (g,v)::r else (g,x)::putF f v r
theorem zig (f g:Str) (v:V):∀fs:List (Str×V),(putF f v fs).lookup g=if g=f then some v else fs.lookup g
 | []=>by
   show List.lookup g [(f,v)]=_
   by_cases h:g=f
   · have hb:(g == f)=true:=beq_iff_eq.mpr h
     simp only [List.lookup,hb,if_pos h]
   · have hb:(g == f)=false:=beq_eq_false_iff_ne.mpr h
     simp only [List.lookup,hb,if_neg h]
 | (k,x)::r=>by
   have ih:=zig f g v r
   rw [show putF f v ((k,x)::r)=(if k=f then (k,v)::r else (k,x)::putF f v r) from rfl]
   by_cases hk:k=f
   · rw [if_pos hk]
     by_cases h:g=k
     · have hb:(g == k)=true:=beq_iff_eq.mpr h
       simp only [List.lookup,hb,if_pos (h.trans hk)]
     · have hb:(g == k)=false:=beq_eq_false_iff_ne.mpr h
       simp only [List.lookup,hb,if_neg (fun e:g=f=>h (e.trans hk.symm))]
   · rw [if_neg hk]
     by_cases h:g=k
     · have hb:(g == k)=true:=beq_iff_eq.mpr h
       simp only [List.lookup,hb,if_neg (fun e:g=f=>hk (h.symm.trans e))]
     · have hb:(g == k)=false:=beq_eq_false_iff_ne.mpr h
       simp only [List.lookup,hb]
       exact ih
theorem ziq (f:Str) (v:V):∀fs:List (Str×V),f∈(putF f v fs).map (·.1)∧∀g,g∈fs.map (·.1)→g∈(putF f v fs).map (·.1)
 | []=>⟨by simp [putF],fun g h=>by simp at h⟩
 | (k,x)::r=>by
   obtain ⟨i1,i2⟩:=ziq f v r
   rw [show putF f v ((k,x)::r)=(if k=f then (k,v)::r else (k,x)::putF f v r) from rfl]
   by_cases hk:k=f
   · rw [if_pos hk]
     subst hk
     exact ⟨by simp,fun g h=>by simpa using h⟩
   · rw [if_neg hk]
     refine ⟨?_,fun g h=>?_⟩
     · rw [List.map_cons]
       exact List.mem_cons_of_mem _ i1
     · rw [List.map_cons] at h ⊢
       rcases List.mem_cons.mp h with e | e
       · exact List.mem_cons.mpr (.inl e)
       · exact List.mem_cons_of_mem _ (i2 g e)
theorem zij (f:Str) (v:V):∀fs:List (Str×V),(putF f v fs).length≤fs.length + 1
 | []=>by simp [putF]
 | (k,x)::r=>by
   have ih:=zij f v r
   rw [show putF f v ((k,x)::r)=(if k=f then (k,v)::r else (k,x)::putF f v r) from rfl]
   by_cases hk:k=f
   · rw [if_pos hk,List.length_cons,List.length_cons];omega
   · rw [if_neg hk,List.length_cons,List.length_cons];omega

theorem RelO.some_of {v:V}{o:Option Value} (r:RelO (some v) o):∃u,o=some u∧RelV v u:=by
 cases o with
 | none=>exact (show False from r).elim
 | some u=>exact ⟨u,rfl,r⟩
theorem RelO.none_of {o:Option Value} (r:RelO none o):o=none:=by
 cases o with
 | none=>rfl
 | some u=>exact (show False from r).elim
theorem zwo {v:V}{u:Value} (r:RelV v u):PySem.W.handedIn u=true:=by
 cases v with
 | non=>cases (show u=Value.none from r);rfl
 | bl b=>cases (show u=Value.bool b from r);rfl
 | int i=>obtain ⟨t,e⟩:=(show ∃t,u=Value.int i t from r);cases e;rfl
 | str x=>obtain ⟨t,e⟩:=(show ∃t,u=Value.str x t from r);cases e;rfl
 | byt b=>obtain ⟨t,e⟩:=(show ∃t,u=Value.bytes b t from r);cases e;rfl
 | flt b=>obtain ⟨t,e⟩:=(show ∃t,u=Value.float b t from r);cases e;rfl
 | ref a=>cases (show u=Value.ref a from r);rfl
 | ty n=>cases (show u=Value.type n from r);rfl

section
variable {P:Program}{w:World}{H H':Hp}{h h':Heap}{a C dx:Addr}{fs fs':List (Str×V)}
theorem zmb (hok:HOk P w H h) (e:H a=some (.ins C dx fs)):∃mA,ObjM h a dx C mA∧(∀f,RelO (fs.lookup f) (mA f))∧PySem.Within mA (fs.map (·.1))∧fs.length≤1000∧H dx=some (.own a):=by
 obtain ⟨d,z,ne,ob,mA,n,r,q⟩:=(show ObjOk P w H h a (.ins C dx fs) from hok a _ e)
 exact ⟨mA,⟨ob,n,ne⟩,r,q,z,d⟩
end

structure Cls (K:PySem.W.Frag) (C:Addr):Prop where
 pg:PySem.W.plainGet K C Str.empty=true
 hd:PySem.W.hasDictIn K C=true
 po:PySem.W.plainOver K C=true
 sa:PySem.W.findIn K (.ref C) "__setattr__"=some (some (.builtin "object.__setattr__"))
theorem Cls.get {K:PySem.W.Frag}{C:Addr} (c:Cls K C) (f:Str):PySem.W.plainGet K C f=true:=c.pg
def NoAttr (K:PySem.W.Frag) (C:Addr) (f:Str):Prop:=PySem.W.findIn K (.ref C) f=some none
theorem NoAttr.taker {K:PySem.W.Frag}{C:Addr}{f:Str} (n:NoAttr K C f):PySem.W.takerIn K C f=some none:=by
 unfold PySem.W.takerIn
 rw [show PySem.W.findIn K (.ref C) f=some none from n]
 rfl
structure Meth (K:PySem.W.Frag) (C:Addr) (m:Str) (f:Addr):Prop where
 at_:PySem.W.findIn K (.ref C) m=some (some (.ref f))
 fn:PySem.W.isFn K (.ref f)=true
 kp:PySem.W.keepIn K (.ref f)=true

section
variable {X:Cx}{pins:List (Addr×Obj)}{σ:St}{H:Hp}{s:Shared}{a C dx:Addr}{fs:List (Str×V)}{f:Str}{v:V}{A:Around}{E:Value→Shared→Prop}

theorem ztk {b:Bool}{Q:Value→Shared→Prop} (I:Inv X pins σ H s) (e:H a=some (.ins C dx fs)) (c:Cls X.K C) (n:NoAttr X.K C f) (l:fs.lookup f=some v)
   (h:∀u s',Inv X pins σ H s'→RelV v u→Q u s'):wpAny (model X.prog X.w) A (getAttr (.ref a) f b) Q E s:=by
 obtain ⟨mA,O,r,_,_,_⟩:=zmb I.hok e
 obtain ⟨u,hu,ru⟩:=RelO.some_of (v:=v) (o:=mA f) (by rw [← l];exact r f)
 exact get_map I.kIn O (c.get f) c.hd n hu (zwo ru) (h u _ (I.tok _) ru)

theorem ztj {m:Str}{g:Addr}{pl:Sem Bool}{Q:Value×List Value→Shared→Prop} (I:Inv X pins σ H s) (e:H a=some (.ins C dx fs)) (c:Cls X.K C) (k:Meth X.K C m g) (l:fs.lookup m=none)
   (h:Q (.ref g,[.ref a]) s):wpAny (model X.prog X.w) A (getMethod (.ref a) m pl) Q E s:=by
 obtain ⟨mA,O,r,_,_,_⟩:=zmb I.hok e
 have hn:mA m=none:=RelO.none_of (by rw [← l];exact r m)
 exact get_meth I.kIn O (c.get m) k.at_ k.fn hn h

theorem zsq {y:V}{u:Value}{Q:Unit→Shared→Prop} (I:Inv X pins σ H s) (e:H a=some (.ins C dx fs)) (c:Cls X.K C) (n:NoAttr X.K C f) (hl:fs.length < 1000) (ry:RelV y u)
   (h:∀s',Inv X pins σ (upd H a (.ins C dx (putF f y fs))) s'→Q () s'):wpAny (model X.prog X.w) A (setAttr (.ref a) f u) Q E s:=by
 obtain ⟨mA,O,r,wi,_,ho⟩:=zmb I.hok e
 have hz:(fs.map (·.1)).length≤sizeLine:=by rw [List.length_map,sizeLine_eq];omega
 refine set_map I.kIn O c.sa c.po n.taker c.hd wi hz fun h' O' sb=>h _ ?_
 have hd:∃o,h'.get? dx=some o:=let ⟨o,_,_,e',_⟩:=O'.ns;⟨o,e'⟩
 refine I.write (x:=a) (e:=dx) (by rw [e];exact True.intro) (.inr ho) (fun b q hb z=>(sb.2 b hb).trans z) hd ?_
 refine ⟨by rw [zba O.ne];exact ho,?_,O.ne,O'.obj,_,O'.ns,fun g=>?_,fun g hg=>?_⟩
 · have:=zij f y fs;omega
 · show RelO ((putF f y fs).lookup g) (if g=f then some u else mA g)
   rw [zig]
   by_cases q:g=f
   · rw [if_pos q,if_pos q];exact ry
   · rw [if_neg q,if_neg q];exact r g
 · by_cases q:g=f
   · rw [q];exact (ziq f y fs).1
   · refine (ziq f y fs).2 g (wi g fun z=>hg ?_)
     show (if g=f then some u else mA g)=none
     rw [if_neg q];exact z

theorem Inv.made (I:Inv X pins σ H s):Inv X pins σ (upd (upd H s.heap.objs.size (.own (s.heap.objs.size + 1))) (s.heap.objs.size + 1) (.ins C s.heap.objs.size []))
   { s with heap:=(s.heap.push PySem.W.emptyDict).push (PySem.W.instObj C s.heap.objs.size) }:=by
 have e1:(s.heap.push PySem.W.emptyDict).get? s.heap.objs.size=some PySem.W.emptyDict:=Heap.get?_push_size s.heap rfl
 have e2:((s.heap.push PySem.W.emptyDict).push (PySem.W.instObj C s.heap.objs.size)).get? (s.heap.objs.size + 1)=some (PySem.W.instObj C s.heap.objs.size):=by
   have:=Heap.get?_push_size (s.heap.push PySem.W.emptyDict) (o:=PySem.W.instObj C s.heap.objs.size) rfl
   rwa [Heap.size_push] at this
 have e3:(s.heap.push PySem.W.emptyDict).Ns s.heap.objs.size (fun _=>none):=⟨PySem.W.emptyDict,#[],_,e1,rfl,(fun e he=>absurd he (by simp)),fun _=>rfl⟩
 have I1:=I.laid (a:=s.heap.objs.size) (o:=.own (s.heap.objs.size + 1)) (h':=s.heap.push PySem.W.emptyDict) (t':=s.toks) (fun b u q=>Heap.get?_push_of_some _ q) (Nat.le_refl _) ⟨_,e1⟩
 refine I1.laid (a:=s.heap.objs.size + 1) (o:=.ins C s.heap.objs.size []) (t':=s.toks) (fun b u q=>Heap.get?_push_of_some _ q) (Nat.le_of_eq (Heap.size_push _ _)) ?_
 have ne:s.heap.objs.size≠s.heap.objs.size + 1:=Nat.ne_of_lt (Nat.lt_succ_self _)
 refine ⟨by rw [zba ne,zbj],Nat.zero_le _,ne,e2,fun _=>none,(Heap.Ns1.of_empty e3).at fun o q=>Heap.get?_push_of_some _ q,fun _=>True.intro,fun y hy=>absurd rfl hy⟩

theorem attr_of {prog:Program}{w:World}{env:Env}{e:Expr}{f:Str}{pos:Pos}{s:Shared}{Q:Value→Shared→Prop} (hb:attributeBase e f env (eval e env)=eval e env)
   (h:wpAny (model prog w) A (eval e env) (fun o s₁=>wpAny (model prog w) A (getAttr o f true) Q E s₁) E s):wpAny (model prog w) A (eval (.Attribute e f pos) env) Q E s :=
 Attribute_any_ h (by rw [arm_eval_Attribute,hb])
end

def tFld (K:PySem.W.Frag) (ta:TE) (f:Str):TE:=fun σ H Q=>ta σ H fun x H1=>∃a C dx fs v,x=.ref a∧H1 a=some (.ins C dx fs)∧Cls K C∧NoAttr K C f∧fs.lookup f=some v∧Q v H1
def sFld (K:PySem.W.Frag) (ta tv:TE) (f:Str):TS:=fun D σ H=>tv σ H fun y H1=>ta σ H1 fun x H2=>∃a C dx fs,x=.ref a∧H2 a=some (.ins C dx fs)∧Cls K C∧NoAttr K C f∧fs.length < 1000 ∧
 D.nx σ (upd H2 a (.ins C dx (putF f y fs)))
section
variable {X:Cx}{o e value:Expr}{f:Str}{pos pos' tpos:Pos}{ta tv:TE}
theorem pe_fld (he:PE X e ta) (hb:attributeBase e f X.env (eval e X.env)=eval e X.env):PE X (.Attribute e f pos) (tFld X.K ta f):=by
 intro pins s σ H Q I h
 refine attr_of hb (thn (he pins s σ H _ I h) fun u s1 ⟨x,H1,I1,rx,a,C,dx,fs,v,ex,ea,c,n,l,q⟩=>?_)
 subst ex
 obtain rfl:u=Value.ref a:=rx
 exact ztk I1 ea c n l fun u' s2 I2 ru=>⟨v,H1,I2,ru,q⟩
theorem ps_fld (ha:PE X o ta) (hv:PE X value tv) (hs:swapsWith value (some (.Attribute o f pos')) pos.line X.env=pure false):PS X (.Assign [.Attribute o f pos'] value pos) (sFld X.K ta tv f):=by
 intro pins s σ H D I h
 refine plainObj_wpAny_Assign_Attribute (thn (hv pins s σ H _ I h) fun u s1 ⟨y,H1,I1,ry,q⟩=>thn (ha pins s1 σ H1 _ I1 q) fun ov s2 ⟨x,H2,I2,rx,a,C,dx,fs,ex,ea,c,n,l,q2⟩=>?_) hs
 subst ex
 obtain rfl:ov=Value.ref a:=rx
 exact zsq I2 ea c n l ry fun s3 I3=>⟨σ,_,I3,q2⟩
end

section
variable {X:Cx}{pins:List (Addr×Obj)}{σ:St}{H:Hp}{s:Shared}{A:Around}{E:Value→Shared→Prop}{Q:Value→Shared→Prop}{c:Value}{b:Bool}
inductive TyOf (K:PySem.W.Frag) (H:Hp):V→Value→Prop where
 | non:TyOf K H .non (.type "NoneType")
 | bl (x:Bool):TyOf K H (.bl x) (.type "bool")
 | int (i:Int):TyOf K H (.int i) (.type "int")
 | str (x:Str):TyOf K H (.str x) (.type "str")
 | flt (x:UInt64):TyOf K H (.flt x) (.type "float")
 | lst {a:Addr}{xs:List V} (e:H a=some (.lst xs)):TyOf K H (.ref a) (.type "list")
 | frz {a:Addr}{o:Obj}{xs:List V} (e:H a=some (.frz o (.lst xs))):TyOf K H (.ref a) (.type "list")
 | tup {a:Addr}{xs:List V} (e:H a=some (.tup xs)):TyOf K H (.ref a) (.type "tuple")
 | dK {a:Addr}{kvs:List (Key×V)} (e:H a=some (.dK kvs)):TyOf K H (.ref a) (.type "dict")
 | dT {a:Addr}{kvs:List (List Key×V)} (e:H a=some (.dT kvs)):TyOf K H (.ref a) (.type "dict")
 | ins {a C dx:Addr}{fs:List (Str×V)} (e:H a=some (.ins C dx fs)) (cl:Cls K C) (ha:PySem.W.findIn K (.ref C) "__class__"=some (some (.builtin "object.__class__")))
     (hn:PySem.W.specialIn K (.builtin "object.__class__") "__get__"=some (some (.builtin "getset_descriptor.__get__"))) (htk:PySem.W.takesIn K (.builtin "object.__class__")=some true)
     (hm:PySem.W.mroIn K C (.type "object")=some true):TyOf K H (.ref a) (.ref C)
theorem zwf {x:V}{u t:Value} (I:Inv X pins σ H s) (rx:RelV x u) (ty:TyOf X.K H x t) (e:PySem.W.kitOne X.K t c=some b) (h:∀tk,Q (.bool b) { s with toks:=tk }) :
   wpAny (model X.prog X.w) A (call (.builtin "isinstance") [u,c]) Q E s:=by
 cases ty with
 | non=>cases (show u=Value.none from rx);exact PySem.W.kia_one PySem.W.kitx_none I.kIn True.intro e (fun z=>nomatch z) h
 | bl y=>cases (show u=Value.bool y from rx);exact PySem.W.kia_one PySem.W.kitx_bool I.kIn True.intro e (fun z=>nomatch z) h
 | int i=>obtain ⟨t,q⟩:=(show ∃t,u=Value.int i t from rx);cases q;exact PySem.W.kia_one PySem.W.kitx_int I.kIn True.intro e (fun z=>nomatch z) h
 | str y=>obtain ⟨t,q⟩:=(show ∃t,u=Value.str y t from rx);cases q;exact PySem.W.kia_one PySem.W.kitx_str I.kIn True.intro e (fun z=>nomatch z) h
 | flt y=>obtain ⟨t,q⟩:=(show ∃t,u=Value.float y t from rx);cases q;exact PySem.W.kia_one PySem.W.kitx_float I.kIn True.intro e (fun z=>nomatch z) h
 | @lst a xs ea =>
   cases (show u=Value.ref a from rx)
   obtain ⟨_,_,n,_,h1⟩:=(show ObjOk X.prog X.w H s.heap a (.lst xs) from I.hok a _ ea)
   exact PySem.W.kia_one PySem.W.kitx_list I.kIn ⟨_,h1,rfl⟩ e (fun z=>nomatch z) h
 | @frz a ob xs ea =>
   cases (show u=Value.ref a from rx)
   obtain ⟨_,_,_,n,_,h1⟩:=(show ObjOk X.prog X.w H s.heap a (.frz ob (.lst xs)) from I.hok a _ ea)
   exact PySem.W.kia_one PySem.W.kitx_list I.kIn ⟨_,h1,rfl⟩ e (fun z=>nomatch z) h
 | @tup a xs ea =>
   cases (show u=Value.ref a from rx)
   obtain ⟨_,_,_,p⟩:=(show ObjOk X.prog X.w H s.heap a (.tup xs) from I.hok a _ ea)
   obtain ⟨o,h1,h2,_⟩:=p
   exact PySem.W.kia_one PySem.W.kitx_tuple I.kIn ⟨o,h1,h2⟩ e (fun z=>nomatch z) h
 | @dK a kvs ea =>
   cases (show u=Value.ref a from rx)
   obtain ⟨_,_,vs,_,p⟩:=(show ObjOk X.prog X.w H s.heap a (.dK kvs) from I.hok a _ ea)
   obtain ⟨o,es,ep,h1,h2,_⟩:=p
   exact PySem.W.kia_one PySem.W.kitx_dict I.kIn ⟨o,h1,h2.1⟩ e (fun z=>nomatch z) h
 | @dT a kvs ea =>
   cases (show u=Value.ref a from rx)
   obtain ⟨_,_,xs,_,o,es,ep,h1,h2,_⟩:=(show ObjOk X.prog X.w H s.heap a (.dT kvs) from I.hok a _ ea)
   exact PySem.W.kia_one PySem.W.kitx_dict I.kIn ⟨o,h1,h2.1⟩ e (fun z=>nomatch z) h
 | @ins a C dx fs ea cl ha hn htk hm =>
   cases (show u=Value.ref a from rx)
   obtain ⟨mA,O,_⟩:=zmb I.hok ea
   obtain ⟨od,J,_⟩:=O.look
   exact PySem.W.kia_one (PySem.W.kitx_own (cl.get _) cl.hd ha hn htk hm) I.kIn J e (fun z=>nomatch z) h
end
end L2

namespace L2
open PySem PySem.Spec PyProof.Rows

structure Room (k:Nat) (A:Around):Prop where
 hd:A.handled=none
 dp:A.depth + 3 * k + 5 < recursionLimit
 un:A.units + 16 * k + 200 < cLine
theorem Room.mono {j k:Nat}{A:Around} (r:Room k A) (h:j≤k):Room j A:=⟨r.hd,by have:=r.dp;omega,by have:=r.un;omega⟩
theorem Room.deeper {k:Nat}{A:Around} (r:Room (k + 1) A) (env:Env):Room k (A.deeper env) :=
 ⟨r.hd,by have:=r.dp;show A.depth + 1 + 3 * k + 5 < _;omega,by have:=r.un;show A.units + 3 + 16 * k + 200 < _;omega⟩
theorem Room.in1 {k:Nat}{A:Around} (r:Room (k + 1) A):Room k A.in1 :=
 ⟨r.hd,by have:=r.dp;show A.depth + 3 * k + 5 < _;omega,by have:=r.un;show A.units + 1 + 16 * k + 200 < _;omega⟩
theorem zte {A:Around}{C:Addr}{us:List Value}{kw:List (Str×Value)}:(A.under (.builtin "type.__call__" ⟨.ref C::us,kw⟩)).depth=A.depth + 1:=by
 first | rfl | simp [Around.under,Code.weight,Code.isCreation,Code.isGuard,Code.isCaller,Code.frames,Code.isFrame,guardIds]
theorem ztd {A:Around}{C:Addr}{us:List Value}{kw:List (Str×Value)}:(A.under (.builtin "type.__call__" ⟨.ref C::us,kw⟩)).units=A.units + 1:=by
 first | rfl | simp [Around.under,Code.cUnits,Code.frames,Code.isFrame]
theorem Room.make {k:Nat}{A:Around} (r:Room (k + 1) A) (C:Addr) (us:List Value) (kw:List (Str×Value)):Room k (A.under (.builtin "type.__call__" ⟨.ref C::us,kw⟩)) :=
 ⟨r.hd,by have:=r.dp;rw [zte];omega,by have:=r.un;rw [ztd];omega⟩
theorem Room.depth {k:Nat}{A:Around} (r:Room k A):A.depth < recursionLimit:=by have:=r.dp;omega
def tNil:TA:=fun _ H Q=>Q [] H
def tCons (ta:TE) (tr:TA):TA:=fun σ H Q=>ta σ H fun x H1=>tr σ H1 fun xs H2=>Q (x::xs) H2
section
variable {X:Cx}{e:Expr}{es:List Expr}{te:TE}{t:TA}{pos:Pos}
theorem zvo:PA X [] tNil:=fun _ _ _ _ H Q I h=>Calls.spliced_nil ⟨[],H,I,.nil,h⟩
theorem zll (ha:PE X e te) (hr:PA X es t) (hs:starEach (e::es) X.env=(false,eval e X.env)::starEach es X.env:=by rfl):PA X (e::es) (tCons te t):=by
 intro pos pins s σ H Q I h
 rw [hs]
 show wpAny _ _ (spliced ((false,eval e X.env)::backTo pos (starEach es X.env))) _ _ s
 refine Calls.spliced_cons (thn (ha pins s σ H _ I h) fun u s1 ⟨x,H1,I1,r1,q1⟩=>?_)
 exact thn (hr pos pins s1 σ H1 _ I1 q1) fun us s2 ⟨xs,H2,I2,r2,q2⟩=>⟨x::xs,H2,I2,.cons r1 r2,q2⟩

def tTup (t:TA):TE:=fun σ H Q=>t σ H fun xs H1=>xs.length≤sizeLine∧∀p,H1 p=none→Q (.ref p) (upd H1 p (.tup xs))
def tLst (t:TA):TE:=fun σ H Q=>t σ H fun xs H1=>xs.length≤sizeLine∧∀p,H1 p=none→Q (.ref p) (upd H1 p (.lst xs))
theorem pe_tup {x1} (h:PA X es t):PE X (.Tuple es x1 pos) (tTup t):=by
 intro pins s σ H Q I hq
 refine wpAny_Tuple_spliced (thn (h pos pins s σ H _ I hq) fun us s1 ⟨xs,H1,I1,r,z,q⟩=>⟨by rw [← r.length];exact z,?_⟩)
 have hf:H1 s1.heap.objs.size=none:=I1.hok.fresh (Nat.le_refl _)
 refine ⟨.ref s1.heap.objs.size,upd H1 s1.heap.objs.size (.tup xs),I1.laid (t':=s1.toks) (fun b u e=>Heap.get?_push_of_some _ e) (Nat.le_refl _) ?_,rfl,q _ hf⟩
 exact ⟨z,us,r,⟨_,Heap.get?_push_size _ rfl,rfl,_,rfl⟩⟩
theorem pe_lst (h:PA X es t):PE X (.List es pos) (tLst t):=by
 intro pins s σ H Q I hq
 refine wpAny_List_spliced (thn (h pos pins s σ H _ I hq) fun us s1 ⟨xs,H1,I1,r,z,q⟩=>⟨by rw [← r.length];exact z,?_⟩)
 have hf:H1 s1.heap.objs.size=none:=I1.hok.fresh (Nat.le_refl _)
 refine ⟨.ref s1.heap.objs.size,upd H1 s1.heap.objs.size (.lst xs),I1.laid (t':=s1.toks) (fun b u e=>Heap.get?_push_of_some _ e) (Nat.le_refl _) ?_,rfl,q _ hf⟩
 exact ⟨z,us,0,r,Heap.get?_push_size _ rfl⟩
end

abbrev Sp:=List V→Hp→VK→XK→Prop
abbrev CXT:=List Env→Hp→Shared→XK→Value→Shared→Prop

structure Env0 (P:Program) (w:World) (K:PySem.W.Frag) (mg:Str→Option Value) (base:Heap) (A:Around) (outer:List Env) (s:Shared) (H:Hp):Prop where
 frames:A.frames=some outer
 mod:Mod K mg base
 bs:∀b o,base.get? b=some o→s.heap.get? b=some o∧H b=none
 bsz:base.objs.size≤s.heap.objs.size
 funs:s.heap.FunFrames base outer
 frf:∀b∈frs outer,H b=none
 hok:HOk P w H s.heap
 bare:AllBare s.gens
def CE (outer:List Env) (P:Program) (w:World) (H:Hp) (s:Shared) (Q:VK) (u:Value) (s':Shared):Prop :=
 ∃v H',s'.os=s.os∧AllBare s'.gens∧Un (frs outer) [] H H' s.heap s'.heap∧HOk P w H' s'.heap∧RelV v u∧Q v H'
def CR (CX:CXT) (outer:List Env) (P:Program) (w:World) (H:Hp) (s:Shared) (Q:VK) (E:XK) (r:Result) (s':Shared):Prop :=
 match r with
 | .ok (.ret u)=>CE outer P w H s Q u s'
 | .ok _=>False
 | .error e=>CX outer H s E e s'
structure FnOk (P:Program) (w:World) (K:PySem.W.Frag) (mg:Str→Option Value) (base:Heap) (CX:CXT) (k:Nat) (f:Addr) (fd:FuncData) (ps:List Str) (sp:Sp):Prop where
 len:∀vs H Q E,sp vs H Q E→vs.length=ps.length
 run:∀(A:Around) (outer:List Env) (s:Shared) (H:Hp) (args:Args) (us:List Value) (vs:List V) (Q:VK) (E:XK),Room k A→Env0 P w K mg base A outer s H→BindsTo s fd args (ps.zip us)→Vals vs us→sp vs H Q E →
   codeAny (model P w) A (.call (.ref f) args) (CR CX outer P w H s Q E) s
theorem FnOk.mono {P:Program}{w:World}{K:PySem.W.Frag}{mg:Str→Option Value}{base:Heap}{CX:CXT}{j k:Nat}{f:Addr}{fd:FuncData}{ps:List Str}{sp:Sp} (F:FnOk P w K mg base CX j f fd ps sp) (h:j≤k) :
   FnOk P w K mg base CX k f fd ps sp:=⟨F.len,fun A outer s H args us vs Q E hr=>F.run A outer s H args us vs Q E (hr.mono h)⟩
theorem FnOk.imp {P:Program}{w:World}{K:PySem.W.Frag}{mg:Str→Option Value}{base:Heap}{CX:CXT}{k:Nat}{f:Addr}{fd:FuncData}{ps:List Str}{sp sp':Sp} (F:FnOk P w K mg base CX k f fd ps sp)
   (h:∀vs H Q E,sp' vs H Q E→sp vs H Q E):FnOk P w K mg base CX k f fd ps sp' :=
 ⟨fun vs H Q E q=>F.len vs H Q E (h _ _ _ _ q),fun A outer s H args us vs Q E hr he hb hv hs=>F.run A outer s H args us vs Q E hr he hb hv (h _ _ _ _ hs)⟩

theorem Env0.make {P:Program}{w:World}{K:PySem.W.Frag}{mg:Str→Option Value}{base:Heap}{A:Around}{outer:List Env}{s:Shared}{H:Hp} (e:Env0 P w K mg base A outer s H) (C:Addr) (us:List Value) (kw:List (Str×Value)) :
   Env0 P w K mg base (A.under (.builtin "type.__call__" ⟨.ref C::us,kw⟩)) outer s H:=⟨by first | exact e.frames | (simpa [Around.under,Code.envs,Code.isFrame,pushEnvs] using e.frames),e.mod,e.bs,e.bsz,e.funs,e.frf,e.hok,e.bare⟩
theorem Env0.in1 {P:Program}{w:World}{K:PySem.W.Frag}{mg:Str→Option Value}{base:Heap}{A:Around}{outer:List Env}{s:Shared}{H:Hp} (e:Env0 P w K mg base A outer s H) :
   Env0 P w K mg base A.in1 outer s H:=⟨e.frames,e.mod,e.bs,e.bsz,e.funs,e.frf,e.hok,e.bare⟩

section
variable {X:Cx}{pins:List (Addr×Obj)}{σ:St}{H:Hp}{s s':Shared}
theorem Inv.env0 (I:Inv X pins σ H s):Env0 X.prog X.w X.K X.mg X.base X.A X.stack s H :=
 ⟨I.ok.frames,I.ok.mod,I.bs,Nat.le_trans I.ok.bsz I.sz,I.stack,I.stkFree,I.hok,I.bare⟩
theorem Inv.after {Q:VK}{u:Value} (I:Inv X pins σ H s) (h:CE X.stack X.prog X.w H s Q u s'):EP X pins σ Q u s':=by
 obtain ⟨v,H',os,bare,un,hok,r,q⟩:=h
 obtain ⟨hh,g,d,t,os'⟩:=s'
 obtain rfl:os'=s.os:=os
 exact ⟨v,H',I.call (h':=hh) (g':=g) (d':=d) (t':=t) (ch:=[]) un hok bare (fun b z=>absurd z (by simp)),r,q⟩
end

def tCall (sp:Sp) (dvs:List V) (E:XK) (t:TA):TE:=fun σ H Q=>t σ H fun vs H1=>sp (vs++dvs) H1 Q E
def tMeth (C:Addr) (m:Str) (sp:Sp) (dvs:List V) (E:XK) (ta:TE) (t:TA):TE:=fun σ H Q=>ta σ H fun x H1=>∃a dx fs,x=.ref a∧H1 a=some (.ins C dx fs)∧fs.lookup m=none ∧
 t σ H1 fun vs H2=>sp (x::(vs++dvs)) H2 Q E
def tMake (C:Addr) (sp:Sp) (dvs:List V) (E:XK) (t:TA):TE:=fun σ H Q=>t σ H fun vs H1=>∀x dx,H1 x=none→H1 dx=none→dx≠x →
 sp (.ref x::(vs++dvs)) (upd (upd H1 dx (.own x)) x (.ins C dx [])) (fun v H2=>v=.non∧Q (.ref x) H2) E

def Binds (K:PySem.W.Frag) (fd:FuncData) (ps:List Str) (ds:List Value):Prop :=
 ∀(s:Shared) (us:List Value),K.In s.heap→(us++ds).length=ps.length→BindsTo s fd ⟨us,[]⟩ (ps.zip (us++ds))
theorem Binds.all {K:PySem.W.Frag}{fd:FuncData}{ps:List Str} (h:∀us:List Value,us.length=ps.length→bindArgs fd ⟨us,[]⟩=pure (ps.zip us)):Binds K fd ps []:=fun s us _ hl=>by
 rw [List.append_nil] at hl ⊢
 exact .of_eq (h us hl)

def zkz (CX:CXT) (X:Cx) (E:XK):Prop:=∀(pins:List (Addr×Obj)) (σ:St) (H:Hp) (s:Shared) (e:Value) (s':Shared),Inv X pins σ H s→CX X.stack H s E e s'→X.xe e s'

section
variable {X:Cx}{CX:CXT}{k:Nat}{f C:Addr}{fd:FuncData}{ps:List Str}{sp:Sp}{dvs:List V}{ds:List Value}{E:XK}{x m:Str}{p pos apos:Pos}{e o:Expr}{es:List Expr}{ta:TE}{t:TA}

theorem zne {pins:List (Addr×Obj)}{σ:St}{H:Hp}{s:Shared}{Q:VK}{us:List Value}{vs:List V} (F:FnOk X.prog X.w X.K X.mg X.base CX k f fd ps sp) (hr:Room k X.A) (hb:Binds X.K fd ps ds) (hd:Vals dvs ds) (hx:zkz CX X E)
   (I:Inv X pins σ H s) (r:Vals vs us) (h:sp (vs++dvs) H Q E):wpAny (model X.prog X.w) X.A (call (.ref f) us) (EP X pins σ Q) X.xe s:=by
 have r2:Vals (vs++dvs) (us++ds):=r.append hd
 have hl:(us++ds).length=ps.length:=by rw [← r2.length];exact F.len _ _ _ _ h
 refine wpAny_call (codeAny_mono (F.run X.A X.stack s H ⟨us,[]⟩ (us++ds) (vs++dvs) Q E hr I.env0 (hb s us I.kIn hl) r2 h) fun r s' hq=>?_)
 cases r with
 | error e=>exact hx pins σ H s e s' I hq
 | ok fl =>
   cases fl with
   | ret u=>exact I.after hq
   | next=>exact False.elim hq
   | brk=>exact False.elim hq
   | cont=>exact False.elim hq

theorem pe_call (F:FnOk X.prog X.w X.K X.mg X.base CX k f fd ps sp) (hr:Room k X.A) (hg:Gl X x) (hm:X.mg x=some (.ref f)) (hk:PySem.W.keepIn X.K (.ref f)=true) (hb:Binds X.K fd ps ds) (hd:Vals dvs ds) (hx:zkz CX X E)
   (ha:PA X (e::es) t) (hdb:(x == ("__debug__":Str))=false:=by decide) (he:starEach (e::es) X.env=(false,eval e X.env)::starEach es X.env:=by rfl) (hpl:(backTo pos (starEach es X.env)).any (·.1)=false:=by rfl) :
   PE X (.Call (.Name x p) (e::es) [] pos) (tCall sp dvs E t):=by
 intro pins s σ H Q I h
 refine wpAny_Call_Name_kw (zlr I hg hm ?_ hdb)
 refine PySem.W.callWith_K (h₀:=X.base) I.ok.mod.kin hk (thn (ha pos pins s σ H _ I h) fun us s1 ⟨vs,H1,I1,r,q⟩=>⟨I1.kIn,?_⟩) he hpl
 exact zne F hr hb hd hx I1 r q
theorem pe_meth {pl:Sem Bool} (he:PE X o ta) (c:Cls X.K C) (hm:Meth X.K C m f) (F:FnOk X.prog X.w X.K X.mg X.base CX k f fd ps sp) (hr:Room k X.A) (hb:Binds X.K fd ps ds) (hd:Vals dvs ds) (hx:zkz CX X E) (ha:PA X (e::es) t)
   (hst:starEach (e::es) X.env=(false,eval e X.env)::starEach es X.env:=by rfl) (hpl:(backTo pos (starEach es X.env)).any (·.1)=false:=by rfl)
   (ht:eval (.Call (.Attribute o m apos) (e::es) [] pos) X.env=(do
     let ov ← eval o X.env
     standAt apos.atName
     let (f,first) ← holding [ov] (getMethod ov m pl)
     callWith pos f first (backTo pos (starEach (e::es) X.env)) (backToKw pos (keywordEach [] X.env))):=by rfl) :
   PE X (.Call (.Attribute o m apos) (e::es) [] pos) (tMeth C m sp dvs E ta t):=by
 intro pins s σ H Q I h
 refine PySem.W.methodCall_KW (pl:=pl) (thn (he pins s σ H _ I h) fun u s1 ⟨x,H1,I1,rx,a,dx,fs,ex,ea,l,q⟩=>?_) ht
 subst ex
 obtain rfl:u=Value.ref a:=rx
 refine ztj I1 ea c hm l ?_
 refine PySem.W.callWith_K (first:=[.ref a]) (h₀:=X.base) I.ok.mod.kin hm.kp (thn (ha pos pins s1 σ H1 _ I1 q) fun us s2 ⟨vs,H2,I2,r,q2⟩=>⟨I2.kIn,?_⟩) hst hpl
 exact zne (us:=.ref a::us) (vs:=.ref a::vs) F hr hb hd hx I2 (.cons rfl r) q2
structure Mk (K:PySem.W.Frag) (C f:Addr):Prop where
 makes:PySem.W.makesIn K C=true
 init:PySem.W.findIn K (.ref C) "__init__"=some (some (.ref f))
 fn:PySem.W.isFn K (.ref f)=true
 kp:PySem.W.keepIn K (.ref C)=true

theorem run_make {pins:List (Addr×Obj)}{σ:St}{H:Hp}{s:Shared}{Q:VK}{us:List Value}{vs:List V} (M:Mk X.K C f) (F:FnOk X.prog X.w X.K X.mg X.base CX k f fd ps sp) (hr:Room (k + 1) X.A) (hb:Binds X.K fd ps ds) (hd:Vals dvs ds)
   (hx:zkz CX X E) (I:Inv X pins σ H s) (r:Vals vs us)
   (h:∀x dx,H x=none→H dx=none→dx≠x→sp (.ref x::(vs++dvs)) (upd (upd H dx (.own x)) x (.ins C dx [])) (fun v H2=>v=.non∧Q (.ref x) H2) E) :
   wpAny (model X.prog X.w) X.A (call (.ref C) us) (EP X pins σ Q) X.xe s:=by
 have hq:=h (s.heap.objs.size + 1) s.heap.objs.size (I.hok.fresh (Nat.le_succ _)) (I.hok.fresh (Nat.le_refl _)) (Nat.ne_of_lt (Nat.lt_succ_self _))
 have I2:=Inv.made (C:=C) I
 have r2:Vals (V.ref (s.heap.objs.size + 1)::(vs++dvs)) (Value.ref (s.heap.objs.size + 1)::(us++ds)):=.cons rfl (r.append hd)
 have hl:(Value.ref (s.heap.objs.size + 1)::us++ds).length=ps.length:=by
   have e:=r2.length
   rw [F.len _ _ _ _ hq] at e
   exact e.symm
 refine wpAny_call (make_map (f:=f) I.kIn M.makes M.init (beq_iff_eq.mp M.fn) (codeAny_mono (F.run _ X.stack _ _ ⟨Value.ref (s.heap.objs.size + 1)::us,[]⟩ (Value.ref (s.heap.objs.size + 1)::(us++ds)) _ _ E (hr.make C us [])
   (I2.env0.make C us []) (hb _ (Value.ref (s.heap.objs.size + 1)::us) I2.kIn hl) r2 hq) fun r s' hq'=>?_))
 cases r with
 | error e=>exact hx pins σ _ _ e s' I2 hq'
 | ok fl =>
   cases fl with
   | ret u =>
     obtain ⟨v,H',I3,rv,ev,q3⟩:=I2.after hq'
     subst ev
     exact ⟨rv,⟨V.ref (s.heap.objs.size + 1),H',I3,rfl,q3⟩⟩
   | next=>exact False.elim hq'
   | brk=>exact False.elim hq'
   | cont=>exact False.elim hq'
theorem pe_make0 (M:Mk X.K C f) (F:FnOk X.prog X.w X.K X.mg X.base CX k f fd ps sp) (hr:Room (k + 1) X.A) (hg:Gl X x) (hm:X.mg x=some (.ref C)) (hb:Binds X.K fd ps ds) (hd:Vals dvs ds) (hx:zkz CX X E)
   (hdb:(x == ("__debug__":Str))=false:=by decide):PE X (.Call (.Name x p) [] [] pos) (tMake C sp dvs E tNil):=by
 intro pins s σ H Q I h
 refine wpAny_Call_Name_kw (zlr I hg hm ?_ hdb)
 exact PySem.W.callWith_K0 I.kIn M.kp (run_make (us:=[]) M F hr hb hd hx I .nil h)
end


structure FnScope (N P:List Str) (sc:Scope):Prop where
 kind:sc.kind=.function
 co:sc.isCoroutine=false
 gen:sc.isGenerator=false
 nd:N.Nodup
 pre:N.take P.length=P
 par:∀x∈P,sc.names.lookup x=some .local∨sc.names.lookup x=some .cell
 nofree:∀y∈sc.names,y.2≠.free

theorem zom {kindOf:Str→Option NameKind}{x:Str}:∀{binds:List (Str×Value)}{m:Str→Option Value},(∀v,(x,v)∉binds)→bindL kindOf binds m x=m x
 | [],_,_=>rfl
 | (n,v)::r,m,h=>by
   unfold bindL
   rw [zom fun w hw=>h w (List.mem_cons_of_mem _ hw)]
   split
   · have:x≠n:=by rintro rfl;exact h v List.mem_cons_self
     simp [this]
   · rfl
theorem zoo {kindOf:Str→Option NameKind}{x:Str}:∀{binds:List (Str×Value)}{m:Str→Option Value},(∀v,(x,v)∉binds)→bindC kindOf binds m x=m x
 | [],_,_=>rfl
 | (n,v)::r,m,h=>by
   unfold bindC
   rw [zoo fun w hw=>h w (List.mem_cons_of_mem _ hw)]
   split
   · rfl
   · have:x≠n:=by rintro rfl;exact h v List.mem_cons_self
     simp [this]
theorem zon {kindOf:Str→Option NameKind}{x:Str}{v:Value}:∀{P:List Str}{vs:List Value}{i:Nat}{m:Str→Option Value},P.Nodup→P[i]? = some x→vs[i]? = some v→kindOf x=some .local →
   bindL kindOf (P.zip vs) m x=some v
 | [],_,_,_,_,h,_,_=>by simp at h
 | _::_,[],_,_,_,_,h,_=>by simp at h
 | p::P,w::vs,0,m,nd,h1,h2,hk=>by
   simp at h1 h2;subst h1;subst h2
   show bindL kindOf ((p,w)::P.zip vs) m p=_
   unfold bindL
   rw [zom fun v hv=>(List.nodup_cons.mp nd).1 (List.of_mem_zip hv).1,if_pos hk]
   simp
 | p::P,w::vs,i + 1,m,nd,h1,h2,hk=>by
   show bindL kindOf ((p,w)::P.zip vs) m x=_
   unfold bindL
   exact zon (i:=i) (List.nodup_cons.mp nd).2 (by simpa using h1) (by simpa using h2) hk
theorem zop {kindOf:Str→Option NameKind}{x:Str}{v:Value}:∀{P:List Str}{vs:List Value}{i:Nat}{m:Str→Option Value},P.Nodup→P[i]? = some x→vs[i]? = some v→kindOf x≠some .local →
   bindC kindOf (P.zip vs) m x=some v
 | [],_,_,_,_,h,_,_=>by simp at h
 | _::_,[],_,_,_,_,h,_=>by simp at h
 | p::P,w::vs,0,m,nd,h1,h2,hk=>by
   simp at h1 h2;subst h1;subst h2
   show bindC kindOf ((p,w)::P.zip vs) m p=_
   unfold bindC
   rw [zoo fun v hv=>(List.nodup_cons.mp nd).1 (List.of_mem_zip hv).1,if_neg hk]
   simp
 | p::P,w::vs,i + 1,m,nd,h1,h2,hk=>by
   show bindC kindOf ((p,w)::P.zip vs) m x=_
   unfold bindC
   exact zop (i:=i) (List.nodup_cons.mp nd).2 (by simpa using h1) (by simpa using h2) hk

def start (N:List Str) (vs:List V):St:=vs.map some++List.replicate (N.length - vs.length) none

def cxOf (CX:CXT) (P:Program) (w:World) (K:PySem.W.Frag) (mg:Str→Option Value) (base:Heap) (N:List Str) (qual:Str) (scope:Scope) (f:Addr) (cd:Value) (A:Around) (outer:List Env) (s:Shared) (H:Hp) (E:XK):Cx where
 prog:=P
 w:=w
 K:=K
 mg:=mg
 base:=base
 A:=A.deeper (envOfC qual scope s.heap.objs.size f cd)
 N:=N
 s₀:=s
 H₀:=H
 env:=envOfC qual scope s.heap.objs.size f cd
 outer:=outer
 stack:=envOfC qual scope s.heap.objs.size f cd::outer
 ex:=[]
 calm:=true
 fn:=fun _=>true
 pn:=[]
 xe:=fun e s'=>wpAny (model P w) (A.deeper (envOfC qual scope s.heap.objs.size f cd)) (leaving (envOfC qual scope s.heap.objs.size f cd) e) (fun _ s''=>CX outer H s E e s'') (fun e' s''=>CX outer H s E e' s'') s'

theorem zsd {sc:Scope}{n:Nat}{x:Str} (h:sc.names.lookup x=some .cell):∃c,(cellsFrom n sc.names []).lookup x=some c:=by
 have q:=PySem.W.cellsFrom_some sc.names n [] (.inl h)
 exact Option.isSome_iff_exists.mp q

theorem zwj {CX:CXT}{P:Program}{w:World}{K:PySem.W.Frag}{mg:Str→Option Value}{base:Heap}{N ps:List Str}{qual:Str}{scope:Scope}{f:Addr}{cd:Value}{A:Around}{outer:List Env}{s s1:Shared}{H:Hp}{E:XK}{us:List Value}{vs:List V}
   (S:FnScope N ps scope) (hd:A.handled=none) (e0:Env0 P w K mg base A outer s H) (hl:vs.length=ps.length) (r:Vals vs us)
   (x:InCallC s s.heap.objs.size (bindL (envOfC qual scope s.heap.objs.size f cd).kindOf (ps.zip us) fun _=>none) (cellsFrom (s.heap.objs.size + 1) scope.names []) (bindC (envOfC qual scope s.heap.objs.size f cd).kindOf (ps.zip us) fun _=>none) s1) :
   Inv (cxOf CX P w K mg base N qual scope f cd A outer s H E) [] (start N vs) H s1:=by
 have hpl:ps.length≤N.length:=by have:=congrArg List.length S.pre;rw [List.length_take] at this;omega
 obtain ⟨h1,tk,rfl,hk⟩:=x.done
 have noA:∀b:Addr,b∉(cxOf CX P w K mg base N qual scope f cd A outer s H E).ex:=fun b z=>absurd (show b∈([]:List Addr) from z) (by simp)
 refine ⟨⟨e0.mod,S.kind,rfl,rfl,Nat.le_refl _,fun y z c h1 h2=>?_,fun y hy=>?_,fun y c _ h=>?_,fun _=>hd,Around.frames_deeper e0.frames,.inr ⟨rfl,rfl⟩,fun b z=>absurd z (noA b),e0.bs,e0.bsz,fun b _ _=>noA b,fun b z=>absurd z (noA b),e0.funs,e0.frf⟩,
   rfl,e0.bare,Un.kept hk,⟨_,x.toInCall.ns,fun i y v h1 h2 h3=>?_⟩,fun y c h=>⟨_,x.cell y c h⟩,e0.hok.fresh (Nat.le_refl _),fun y c h=>?_,fun p hp=>absurd (show p∈([]:List (Addr×Obj)) from hp) (by simp),e0.hok.kept hk,?_⟩
 · exact name_of_addr x.apart (PySem.mem_of_lookup h1) (PySem.mem_of_lookup h2)
 · have hy:scope.names.lookup y=some .cell∨scope.names.lookup y=some .free:=hy
   rcases hy with hy | hy
   · exact zsd hy
   · exact absurd rfl (S.nofree _ (PySem.mem_of_lookup hy))
 · exact Nat.le_of_lt (x.above y c (PySem.mem_of_lookup h))
 · have hi:i < vs.length:=by
     unfold start at h2
     by_cases hi:i < vs.length
     · exact hi
     · rw [List.getElem?_append_right (by simpa using hi)] at h2
       rw [List.getElem?_replicate] at h2
       split at h2 <;> cases h2
   have ha:vs[i]? = some v:=by
     unfold start at h2
     rw [List.getElem?_append_left (by simpa using hi),List.getElem?_map] at h2
     cases e:vs[i]? with
     | none=>rw [e] at h2;cases h2
     | some a=>rw [e] at h2;cases h2;rfl
   obtain ⟨u,hu,rv⟩:=r.get ha
   have hp:ps[i]? = some y:=by
     rw [← S.pre,List.getElem?_take_of_lt (by omega)];exact h1
   have ndP:ps.Nodup:=by rw [← S.pre];exact S.nd.sublist (List.take_sublist _ _)
   refine ⟨u,rv,?_⟩
   rcases S.par y (List.mem_of_getElem? hp) with k | k
   · exact .inl ⟨k,zon ndP hp hu k⟩
   · obtain ⟨c,e⟩:=zsd (n:=s.heap.objs.size + 1) k
     refine .inr ⟨.inl k,c,e,?_⟩
     have q:=x.cell y c e
     rw [zop ndP hp hu (by show scope.names.lookup y≠_;rw [k];decide)] at q
     exact q
 · exact e0.hok.fresh (Nat.le_of_lt (x.above y c (PySem.mem_of_lookup h)))
 · unfold start
   show _=N.length
   rw [List.length_append,List.length_map,List.length_replicate]
   omega

theorem fn_of {CX:CXT}{P:Program}{w:World}{K:PySem.W.Frag}{mg:Str→Option Value}{base:Heap}{k:Nat}{f:Addr}{name qual:Str}{params:Arguments}{body:List Stmt}{scope:Scope}{dV kV doc pm cdv ct oc:Value}{an od:Option Addr}
   {osl:Array (Option Value)}{N ps:List Str}{sp:Sp} (lk:K.lookup f=some ⟨oc,od,.func (PySem.W.fnOf name qual params body scope dV kV doc pm an cdv ct),osl⟩) (hcd:PySem.W.codeIn K cdv qual=true) (S:FnScope N ps scope)
   (len:∀vs H Q E,sp vs H Q E→vs.length=ps.length)
   (hbody:∀(A:Around) (outer:List Env) (s:Shared) (H:Hp) (vs:List V) (Q:VK) (E:XK),Room k (A.deeper (envOfC qual scope s.heap.objs.size f cdv))→sp vs H Q E →
     ∃t,PSs (cxOf CX P w K mg base N qual scope f cdv A outer s H E) body t∧t { nx:=fun _ H'=>Q .non H',rt:=Q } (start N vs) H) :
   FnOk P w K mg base CX (k + 1) f (PySem.W.fnOf name qual params body scope dV kV doc pm an cdv ct) ps sp:=by
 refine ⟨len,fun A outer s H args us vs Q E hr e0 hb r hsp=>?_⟩
 have hl:=len _ _ _ _ hsp
 have KX:K.In s.heap:=e0.mod.kin.keeps fun b o e=>(e0.bs b o e).1
 have lim:s.heap.NoLimit:=e0.mod.nolimit.keeps fun b o e=>(e0.bs b o e).1
 have hkind:∀y∈ps.zip us,scope.names.lookup y.1=some .local∨(scope.names.lookup y.1=some .cell∧((cellsFrom (s.heap.objs.size + 1) scope.names []).lookup y.1).isSome=true):=fun ⟨n,v⟩ hy=>by
   rcases S.par n (List.of_mem_zip hy).1 with q | q
   · exact .inl q
   · exact .inr ⟨q,PySem.W.cellsFrom_some _ _ _ (.inl q)⟩
 refine codeAny_call_function hr.depth (KX _ _ lk) rfl S.co S.gen rfl (PySem.W.codeRec_of KX hcd) (hb _ _ _ _ ?_)
 refine wpAny_newFunctionEnv_cells S.kind hkind fun env he s1 x=>?_
 subst he
 refine ⟨lim.keeps x.toInCall.keep,codeAny_func ?_⟩
 obtain ⟨t,ht,hq⟩:=hbody A outer s H vs Q E (hr.deeper _) hsp
 have I:Inv (cxOf CX P w K mg base N qual scope f cdv A outer s H E) [] (start N vs) H s1:=zwj S hr.hd e0 hl r x
 refine wpAny_mono (ht [] s1 (start N vs) H _ I hq) (fun fl s' hs=>?_) fun e s' hs=>hs
 have fin:∀{σ':St}{H':Hp}{v:V}{u:Value},Inv (cxOf CX P w K mg base N qual scope f cdv A outer s H E) [] σ' H' s'→RelV v u→Q v H'→CE outer P w H s Q u s' :=
   fun {σ' H' v u} J rv q=>⟨v,H',J.os,J.bare,J.base,J.hok,rv,q⟩
 cases fl with
 | ret u =>
   obtain ⟨v,σ',H',J,rv,q⟩:=hs
   exact fin J rv q
 | next =>
   obtain ⟨σ',H',J,q⟩:=hs
   exact fin (v:=V.non) (u:=Value.none) J rfl q
 | brk =>
   obtain ⟨_,_,_,q⟩:=hs
   exact False.elim q
 | cont =>
   obtain ⟨_,_,_,q⟩:=hs
   exact False.elim q
end L2

namespace L2
open PySem PySem.Spec PyProof.Rows
section
variable {X:Cx}{x:Str}{p pos:Pos}{e:Expr}{es:List Expr}{t:TA}{id T:String}{r:List V→Hp→VK→Prop}

def tCB (r:List V→Hp→VK→Prop) (t:TA):TE:=fun σ H Q=>t σ H fun vs H1=>r vs H1 Q
theorem pe_callB (hc:CallR X (.builtin id) r) (hg:Gl X x) (hm:X.mg x=none) (hv:bootBuiltins x=some (.builtin id)) (ha:PA X (e::es) t) (hn:x≠"__name__":=by decide) (hdb:(x == ("__debug__":Str))=false:=by decide)
   (he:starEach (e::es) X.env=(false,eval e X.env)::starEach es X.env:=by rfl) (hpl:(backTo pos (starEach es X.env)).any (·.1)=false:=by rfl):PE X (.Call (.Name x p) (e::es) [] pos) (tCB r t):=by
 intro pins s σ H Q I h
 refine wpAny_Call_Name_kw (zik I hg hm hv ?_ hn hdb)
 exact PyProof.Rows.callWith_builtin1 (thn (ha pos pins s σ H _ I h) fun us s1 ⟨vs,H1,I1,r1,q1⟩=>hc pins s1 σ H1 vs us Q I1 r1 q1) he hpl
theorem zvn (hc:CallR X (.type T) r) (hg:Gl X x) (hm:X.mg x=none) (hv:bootBuiltins x=some (.type T)) (ha:PA X (e::es) t) (hn:x≠"__name__":=by decide) (hdb:(x == ("__debug__":Str))=false:=by decide)
   (he:starEach (e::es) X.env=(false,eval e X.env)::starEach es X.env:=by rfl) (hpl:(backTo pos (starEach es X.env)).any (·.1)=false:=by rfl):PE X (.Call (.Name x p) (e::es) [] pos) (tCB r t):=by
 intro pins s σ H Q I h
 refine wpAny_Call_Name_kw (zik I hg hm hv ?_ hn hdb)
 exact PyProof.Rows.callWith_type1 (thn (ha pos pins s σ H _ I h) fun us s1 ⟨vs,H1,I1,r1,q1⟩=>hc pins s1 σ H1 vs us Q I1 r1 q1) he hpl
end
end L2

namespace HT
open PySem PyProof.Rows

theorem eqAt_int (A:Around) (s:Shared) (a:Int) (t:Tok) (c:Int) (u:Tok):∃e,SeqAt.EqAt A s (.int a t) (.int c u) e∧(e=true ↔ a=c) :=
 ⟨(a == c),SeqAt.EqAt.int_int a t c u,by simp⟩
theorem rcLt_int (A:Around) (s:Shared) (a:Int) (t:Tok) (c:Int) (u:Tok) (prog:Program) (w:World) (E:Value→Shared→Prop) (Q:Value→Shared→Prop) (h:Q (.bool (decide (a < c))) s) :
   wpAny (model prog w) A (richCompare .Lt (.int a t) (.int c u)) Q E s :=
 (PyProof.Rows.lt_int h:wpAny (model prog w) A (compareOp .Lt (.int a t) (.int c u)) Q E s)

section
open PySem.SeqAt
open PySem.AutoSeq1 (wpAny_loadPart')
open PySem.MeetsSeq PySem.MeetsSeq2 PySem.MeetsSeq3

end

section
variable {prog:Program}{w:World}{A:Around}{E:Value→Shared→Prop}{s:Shared}

theorem cat_tup {t b:Addr}{vs ws:List Value}{Q:Value→Shared→Prop} (ht:IsTup s.heap t vs.toArray) (hb:IsTup s.heap b ws.toArray) (hv:vs≠[])
   (h1:ws=[]→Q (.ref t) s) (h2:ws≠[]→Q (.ref s.heap.objs.size) { s with heap:=s.heap.push { cls:=.type "tuple",data:=.seq (vs++ws).toArray } })
   (hsz:vs.length + ws.length≤sizeLine):wpAny (model prog w) A (binaryOp .Add (.ref t) (.ref b)) Q E s:=by
 obtain ⟨⟨cls,dd,data,sl⟩,ho,hc,n,hd⟩:=id ht
 obtain ⟨⟨cls2,dd2,data2,sl2⟩,ho2,hc2,n2,hd2⟩:=id hb
 simp only at hc hd hc2 hd2
 subst hc hd hc2 hd2
 have e:vs.toArray++ws.toArray=(vs++ws).toArray:=by simp
 by_cases hw:ws=[]
 · exact concat_meets ⟨_,ho,rfl⟩ ⟨_,ho2,rfl⟩ noFill_tuple_add seq_tuple_add PySem.F.slot_tuple_add PySem.F.entry_tuple_add (PySem.F.args_tuple_add_2 _ _)
     (tuple_addW1 t b vs.toArray ws.toArray n n2 dd dd2 sl sl2 (by simpa using hv) (by simp [hw])) ⟨ho,ho2,h1 hw⟩
 · refine concat_meets ⟨_,ho,rfl⟩ ⟨_,ho2,rfl⟩ noFill_tuple_add seq_tuple_add PySem.F.slot_tuple_add PySem.F.entry_tuple_add (PySem.F.args_tuple_add_2 _ _)
     (tuple_addW2 t b vs.toArray ws.toArray n n2 dd dd2 sl sl2 (by simpa using hv) (by simpa using hw) (by rw [List.size_toArray,List.size_toArray];exact hsz)) ⟨ho,ho2,?_⟩
   rw [e]
   exact h2 hw

def sIx (n d:Nat):Option Int→Nat
 | none=>d
 | some v=>if v < 0 then (v + (n:Int)).toNat else min v.toNat n
theorem sIx_le (n d:Nat) (hd:d≤n) (o:Option Int):sIx n d o≤n:=by
 cases o with
 | none=>exact hd
 | some v =>
   show (if v < 0 then (v + (n:Int)).toNat else min v.toNat n)≤n
   by_cases hv:v < 0
   · rw [if_pos hv];omega
   · rw [if_neg hv];exact Nat.min_le_right _ _
theorem clip_eq (v:Int) (n d:Nat):(if v < 0 then max (v + (n:Int)) 0 else min v (n:Int))=((sIx n d (some v):Nat):Int):=by
 show (if v < 0 then max (v + (n:Int)) 0 else min v (n:Int))=(((if v < 0 then (v + (n:Int)).toNat else min v.toNat n):Nat):Int)
 by_cases hv:v < 0
 · simp only [if_pos hv];omega
 · simp only [if_neg hv];omega
theorem ztx (lo hi:Option Int) (n:Nat):Builtin.Slice.sliceAdjust lo hi 1 (n:Int)=(((sIx n 0 lo:Nat):Int),((sIx n n hi:Nat):Int)):=by
 have h1:¬ ((1:Int) < 0):=by omega
 unfold Builtin.Slice.sliceAdjust
 simp only [h1,if_false]
 refine Prod.ext ?_ ?_
 · cases lo with
   | none=>rfl
   | some v=>exact clip_eq v n 0
 · cases hi with
   | none=>rfl
   | some v=>exact clip_eq v n n
theorem zsw (i j:Nat):Builtin.Slice.slicePlaces (i:Int) (j:Int) 1=j - i:=by
 unfold Builtin.Slice.slicePlaces
 have h1:(1:Int) > 0:=by omega
 simp only [h1,if_true,Int.ediv_one]
 split <;> omega
theorem zkh {v:Value}{o:Option Int}{Q:Option Int→Shared→Prop} (p:IsPart v o) (h:Q o s):wpAny (model prog w) A (Builtin.Slice.slicePartIndex v) Q E s:=by
 cases p with
 | none=>exact slicePart_none h
 | int i t=>exact slicePart_int h
theorem zhn {sl:Addr}{vl vu:Value}{lo hi:Option Int}{n:Nat}{Q:Int×Int×Nat→Shared→Prop} (hs:s.heap.IsSliceOf sl vl vu .none) (pl:IsPart vl lo) (pu:IsPart vu hi)
   (h:Q (((sIx n 0 lo:Nat):Int),1,sIx n n hi - sIx n 0 lo) s):wpAny (model prog w) A (Builtin.Slice.sliceApplied (.ref sl) (pure (n:Int))) Q E s:=by
 obtain ⟨os,hos,hcs,hds⟩:=id hs
 unfold Builtin.Slice.sliceApplied Builtin.Slice.sliceFields
 refine wpAny_bind (wpAny_bind (wpAny_field hos hds (x:=vl) rfl (wpAny_bind (wpAny_field hos hds (x:=vu) rfl (wpAny_bind (wpAny_field hos hds (x:=.none) rfl (wpAny_pure ?_)))))))
 refine wpAny_bind (slicePart_none ?_)
 show wpAny _ _ (if ((1:Int) == 0)=true then _ else _) _ _ s
 rw [if_neg (by decide)]
 refine wpAny_bind (zkh pl (wpAny_bind (zkh pu (wpAny_bind (wpAny_pure ?_)))))
 show wpAny _ _ (match Builtin.Slice.sliceAdjust lo hi 1 (n:Int) with | (lo,hi)=>pure (lo,(1:Int),Builtin.Slice.slicePlaces lo hi 1)) _ _ s
 rw [ztx lo hi n]
 show wpAny _ _ (pure (((sIx n 0 lo:Nat):Int),(1:Int),Builtin.Slice.slicePlaces ((sIx n 0 lo:Nat):Int) ((sIx n n hi:Nat):Int) 1)) _ _ s
 rw [zsw]
 exact wpAny_pure h
theorem pick_gen (xs:Array Value) (i k:Nat):((List.range k).filterMap fun (m:Nat)=>xs[((i:Int) + (m:Int) * 1).toNat]?).toArray=((xs.toList.drop i).take k).toArray:=by
 have e:(fun (m:Nat)=>xs[((i:Int) + (m:Int) * 1).toNat]?)=fun m=>xs[i + m]?:=by
   funext m
   have:((i:Int) + (m:Int) * 1).toNat=i + m:=by omega
   rw [this]
 rw [e]
 have:=pick_run xs i k
 rw [List.filterMap_map] at this
 have e2:((fun x=>xs[x]?) ∘ fun x=>i + x)=fun m=>xs[i + m]?:=rfl
 rw [e2] at this
 rw [this]

theorem getItem_tuple_cut {t sl:Addr}{items:Array Value}{vl vu:Value}{lo hi:Option Int}{Q:Value→Shared→Prop} (ht:IsTup s.heap t items) (hs:s.heap.IsSliceOf sl vl vu .none) (pl:IsPart vl lo) (pu:IsPart vu hi)
   (hw:¬ (sIx items.size 0 lo=0∧sIx items.size items.size hi=items.size))
   (h:Q (.ref s.heap.objs.size) { s with heap:=s.heap.push { cls:=.type "tuple",data:=.seq ((items.toList.drop (sIx items.size 0 lo)).take (sIx items.size items.size hi - sIx items.size 0 lo)).toArray } })
   (hsz:items.size≤sizeLine):wpAny (model prog w) A (getItem (.ref t) (.ref sl)) Q E s:=by
 have htake:sizeOk (.seq ((items.toList.drop (sIx items.size 0 lo)).take (sIx items.size items.size hi - sIx items.size 0 lo)).toArray):=by
   show ((items.toList.drop (sIx items.size 0 lo)).take (sIx items.size items.size hi - sIx items.size 0 lo)).toArray.size≤sizeLine
   rw [List.size_toArray,List.length_take,List.length_drop,Array.length_toList]
   omega
 have hj:sIx items.size items.size hi≤items.size:=sIx_le _ _ (Nat.le_refl _) hi
 obtain ⟨os,hos,hcs,hds⟩:=id hs
 have hTs:s.TypeIs (.ref sl) "slice":=⟨os,hos,hcs⟩
 unfold getItem
 try with_reducible refine wpAny_holding ?_
 first | refine wpAny_bind (wpAny_pure ?_) | skip
 refine wpAny_bind (wpAny_sequenceKey ht.typeIs (by decide) ?_)
 refine wpAny_bind (wpAny_callSpecial?_slot (name:=Str.ofString "__getitem__") ht.typeIs PyProof.Rows.slot_tuple_getitem
   (wpAny_call_entry PyProof.Rows.slot_tuple_getitem ht.typeIs entry_tuple_getitem ?_ (args_tuple_getitem _ _)))
 show wpAny _ _ (Builtin.Tuple.tupleItemsOf (.ref t) >>= _) _ _ s
 refine wpAny_bind (tupleItemsOf_ ht ?_)
 refine wpAny_bind (wpAny_typeOf hTs ?_)
 rw [if_pos (by decide)]
 refine wpAny_bind (zhn hs pl pu ?_)
 have hno:¬ ((((sIx items.size 0 lo:Nat):Int) == 0 && (1:Int) == 1 && (sIx items.size items.size hi - sIx items.size 0 lo) == items.size)=true):=by
   intro q
   rw [Bool.and_eq_true,Bool.and_eq_true] at q
   have q1:((sIx items.size 0 lo:Nat):Int)=0:=eq_of_beq q.1.1
   have q2:sIx items.size items.size hi - sIx items.size 0 lo=items.size:=eq_of_beq q.2
   exact hw ⟨by omega,by omega⟩
 show wpAny _ _ (if (((sIx items.size 0 lo:Nat):Int) == 0 && (1:Int) == 1 && (sIx items.size items.size hi - sIx items.size 0 lo) == items.size)=true then _ else _) _ _ s
 rw [if_neg hno,pick_gen]
 first
   | exact wpAny_bind (m:=Builtin.Tuple.tupleExact _) (wpAny_newObj_type (wpAny_pure ⟨_,rfl,wpAny_pure h⟩) htake)
   | exact wpAny_bind (m:=Builtin.Tuple.tupleExact _) (wpAny_newObj_type (wpAny_bind (wpAny_pure (wpAny_pure ⟨_,rfl,wpAny_pure h⟩))) htake)
   | exact wpAny_bind (wpAny_bind (m:=Builtin.Tuple.tupleExact _) (wpAny_newObj_type (wpAny_pure (wpAny_pure ⟨_,rfl,wpAny_pure h⟩)) htake))
   | exact wpAny_bind (wpAny_bind (m:=Builtin.Tuple.tupleExact _) (wpAny_newObj_type (wpAny_pure ⟨_,rfl,wpAny_pure h⟩) htake))
end
end HT

namespace L2
open PySem PySem.Spec PyProof.Rows

abbrev TO:=St→Hp→(Option Int→Hp→Prop)→Prop
def PO (X:Cx) (e:Option Expr) (t:TO):Prop :=
 ∀(pins:List (Addr×Obj)) (s:Shared) (σ:St) (H:Hp) (Q:Option Int→Hp→Prop),Inv X pins σ H s→t σ H Q →
   wpAny (model X.prog X.w) X.A (evalPart e X.env) (fun u s'=>∃o H',Inv X pins σ H' s'∧IsPart u o∧Q o H') X.xe s
def tNoPart:TO:=fun _ H Q=>Q none H
def tPart (t:TE):TO:=fun σ H Q=>t σ H fun x H1=>∃i,x=.int i∧Q (some i) H1

section
variable {X:Cx}{e:Expr}{te:TE}{lo hi:Option Expr}{tl th:TO}{pos p2:Pos}

theorem po_none:PO X none tNoPart:=by
 intro pins s σ H Q I h
 rw [evalPart_none]
 exact wpAny_pure ⟨none,H,I,.none,h⟩
theorem po_some (h:PE X e te):PO X (some e) (tPart te):=by
 intro pins s σ H Q I hw
 rw [evalPart_some]
 refine thn (h pins s σ H _ I hw) fun u s1 ⟨x,H1,I1,r1,q1⟩=>?_
 obtain ⟨i,rfl,q⟩:=q1
 obtain ⟨t,rfl⟩:=r1
 exact ⟨some i,H1,I1,.int i t,q⟩

def SlR (X:Cx) (r:V→Option Int→Option Int→Hp→VK→Prop):Prop :=
 ∀(pins:List (Addr×Obj)) (s:Shared) (σ:St) (H:Hp) (x:V) (v vl vu:Value) (lo hi:Option Int) (sl:Addr) (Q:VK),Inv X pins σ H s→RelV x v→s.heap.IsSliceOf sl vl vu .none→IsPart vl lo→IsPart vu hi→r x lo hi H Q →
   ∃T id,typeLookup (.type T) "__getitem__"=pure (some (.builtin id))∧s.TypeIs v T∧wpAny (model X.prog X.w) X.A (getItem v (.ref sl)) (EP X pins σ Q) X.xe s
theorem SlR.or {r r':V→Option Int→Option Int→Hp→VK→Prop} (h:SlR X r) (h':SlR X r'):SlR X (fun x lo hi H Q=>r x lo hi H Q∨r' x lo hi H Q):=by
 intro pins s σ H x v vl vu lo hi sl Q I rx hs pl pu q
 rcases q with q | q
 · exact h pins s σ H x v vl vu lo hi sl Q I rx hs pl pu q
 · exact h' pins s σ H x v vl vu lo hi sl Q I rx hs pl pu q
def tSl (r:V→Option Int→Option Int→Hp→VK→Prop) (te:TE) (tl th:TO):TE:=fun σ H Q=>te σ H fun x H1=>tl σ H1 fun l H2=>th σ H2 fun u H3=>r x l u H3 Q
theorem zqy {r:V→Option Int→Option Int→Hp→VK→Prop} (hr:SlR X r) (he:PE X e te) (hl:PO X lo tl) (hu:PO X hi th):PE X (.Subscript e (.Slice lo hi none p2) pos) (tSl r te tl th):=by
 intro pins s σ H Q I h
 refine Subscript_ (thn (he pins s σ H _ I h) fun v s1 ⟨x,H1,I1,r1,q1⟩=>?_)
 refine wpAny_Slice (thn (hl pins s1 σ H1 _ I1 q1) fun vl s2 ⟨l,H2,I2,pl,q2⟩=>thn (hu pins s2 σ H2 _ I2 q2) fun vu s3 ⟨u,H3,I3,pu,q3⟩=>?_)
 rw [evalPart_none]
 refine wpAny_pure ?_
 have I4:Inv X pins σ H3 { s3 with heap:=s3.heap.push { cls:=.type "slice",data:=.fields #[vl,vu,.none] } }:=I3.kept (t':=s3.toks) fun b ob q=>Heap.get?_push_of_some _ q
 obtain ⟨T,id,hT,ht,hg⟩:=hr pins { s3 with heap:=s3.heap.push { cls:=.type "slice",data:=.fields #[vl,vu,.none] } } σ H3 x v vl vu l u s3.heap.objs.size Q I4 r1 (Heap.IsSliceOf.new ..) pl pu q3
 show wpAny (model X.prog X.w) X.A (subscriptTail e (.Slice lo hi none p2) v (.ref s3.heap.objs.size)) (EP X pins σ Q) X.xe { s3 with heap:=s3.heap.push { cls:=.type "slice",data:=.fields #[vl,vu,.none] } }
 exact tail_any (ops:=[.ref s3.heap.objs.size,v]) ht hT hg (by with_unfolding_all rfl)

def cutV (xs:List V) (lo hi:Option Int):List V:=(xs.drop (HT.sIx xs.length 0 lo)).take (HT.sIx xs.length xs.length hi - HT.sIx xs.length 0 lo)
theorem zjd (xs:List V) (lo hi:Option Int):(cutV xs lo hi).length≤xs.length:=by
 unfold cutV
 rw [List.length_take,List.length_drop]
 omega
def rSlT (K:PySem.W.Frag):V→Option Int→Option Int→Hp→VK→Prop:=fun x lo hi H Q=>∃a xs,x=.ref a∧SqT K H a xs ∧
 ¬ (HT.sIx xs.length 0 lo=0∧HT.sIx xs.length xs.length hi=xs.length)∧∀p,H p=none→Q (.ref p) (upd H p (.tup (cutV xs lo hi)))
theorem sl_tup:SlR X (rSlT X.K):=by
 intro pins s σ H x v vl vu lo hi sl Q I rx hs pl pu h
 obtain ⟨a,xs,rfl,hx,hw,q⟩:=h
 cases rx
 obtain ⟨its,r,ht,hz⟩:=I.tuple hx
 have hlen:its.toArray.size=xs.length:=by rw [List.size_toArray];exact r.length.symm
 refine ⟨"tuple",_,PyProof.Rows.slot_tuple_getitem.lookup,ht.typeIs,?_⟩
 refine HT.getItem_tuple_cut ht hs pl pu (by rw [hlen];exact hw) ?_ (by rw [hlen];exact hz)
 rw [hlen]
 refine ⟨.ref s.heap.objs.size,_,I.laid (t':=s.toks) (o:=.tup (cutV xs lo hi)) (fun b ob q=>Heap.get?_push_of_some _ q) (Nat.le_refl _) ?_,rfl,q _ (I.hok.fresh (Nat.le_refl _))⟩
 exact ⟨Nat.le_trans (zjd xs lo hi) hz,_,(r.drop (HT.sIx xs.length 0 lo)).take (HT.sIx xs.length xs.length hi - HT.sIx xs.length 0 lo),IsTup.new _ _⟩

def rCatT (K:PySem.W.Frag):R2:=fun x y H Q=>∃a b xs ys,x=.ref a∧y=.ref b∧SqT K H a xs∧SqT K H b ys∧xs≠[]∧xs.length + ys.length≤sizeLine ∧
 (ys=[]→Q (.ref a) H)∧(ys≠[]→∀p,H p=none→Q (.ref p) (upd H p (.tup (xs++ys))))
theorem Vals.nil_iff {xs:List V}{us:List Value} (r:Vals xs us):us=[] ↔ xs=[]:=by
 cases r with
 | nil=>simp
 | cons _ _=>simp
theorem op_catT:OpR X (binaryOp .Add) (rCatT X.K):=by
 intro pins s σ H x y v u Q I rx ry h
 obtain ⟨a,b,xs,ys,rfl,rfl,ha,hb,hx,hz,q1,q2⟩:=h
 cases rx
 cases ry
 obtain ⟨its,r1,p1,_⟩:=I.tuple ha
 obtain ⟨its2,r2,p2,_⟩:=I.tuple hb
 refine HT.cat_tup p1 p2 (fun z=>hx (r1.nil_iff.mp z)) (fun z=>⟨.ref a,H,I,rfl,q1 (r2.nil_iff.mp z)⟩) (fun z=>?_) (by rw [← r1.length,← r2.length];exact hz)
 refine ⟨.ref s.heap.objs.size,_,I.laid (t':=s.toks) (o:=.tup (xs++ys)) (fun b ob q=>Heap.get?_push_of_some _ q) (Nat.le_refl _) ?_,rfl,q2 (fun w=>z (r2.nil_iff.mpr w)) _ (I.hok.fresh (Nat.le_refl _))⟩
 exact ⟨by rw [List.length_append];exact hz,_,r1.append r2,IsTup.new _ _⟩
end
end L2

namespace L2
open PySem PySem.Spec PyProof.Rows

def ixN (n:Nat) (i:Int):Option Nat:=if 0≤i then (if i < n then some i.toNat else none) else if -(n:Int)≤i then some (i + n).toNat else none
def atI {α:Type} (xs:List α) (i:Int):Option α:=(ixN xs.length i).bind fun j=>xs[j]?
theorem ixN_seq {n:Nat}{i:Int}{j:Nat} (h:ixN n i=some j):seqIndex? i n=some j∧j < n∧-(n:Int)≤i∧i < n:=by
 unfold ixN at h
 by_cases h0:0≤i
 · rw [if_pos h0] at h
   by_cases h1:i < n
   · rw [if_pos h1] at h
     have e:i.toNat=j:=Option.some.inj h
     exact ⟨by rw [seqIndex_of h0 h1,e],by omega,by omega,h1⟩
   · rw [if_neg h1] at h;cases h
 · rw [if_neg h0] at h
   by_cases h1:-(n:Int)≤i
   · rw [if_pos h1] at h
     have e:(i + n).toNat=j:=Option.some.inj h
     exact ⟨by rw [seqIndex_neg (by omega) h1,e],by omega,h1,by omega⟩
   · rw [if_neg h1] at h;cases h
theorem zqe {α:Type}{xs:List α}{i:Int}{v:α} (h:atI xs i=some v):∃j,seqIndex? i xs.length=some j∧xs[j]? = some v∧j < xs.length∧-(xs.length:Int)≤i∧i < xs.length:=by
 unfold atI at h
 cases e:ixN xs.length i with
 | none=>rw [e] at h;cases h
 | some j =>
   rw [e] at h
   obtain ⟨h1,h2,h3,h4⟩:=ixN_seq e
   exact ⟨j,h1,h,h2,h3,h4⟩
theorem zqd {α:Type}{xs:List α}{j:Nat}{v:α} (h:xs[j]? = some v):atI xs (j:Int)=some v:=by
 have hj:j < xs.length:=(List.getElem?_eq_some_iff.mp h).1
 have e:ixN xs.length (j:Int)=some j:=by
   unfold ixN
   rw [if_pos (by omega),if_pos (by omega)];simp
 unfold atI;rw [e];exact h
def PlainIx (b:Expr):Prop:=∀o i,subscripted b false o i=operate [o,i] (getItem o i)
def IxR (X:Cx) (r:R2):Prop :=
 ∀(value slice:Expr) (pins:List (Addr×Obj)) (s:Shared) (σ:St) (H:Hp) (x y:V) (v u:Value) (Q:VK),Inv X pins σ H s→RelV x v→RelV y u→r x y H Q →
   subscripted slice false v u=operate [v,u] (getItem v u)→wpAny (model X.prog X.w) X.A (subscriptTail value slice v u) (EP X pins σ Q) X.xe s
def MtR (X:Cx) (id:String) (r:V→List V→Hp→VK→Prop):Prop :=
 ∀(pins:List (Addr×Obj)) (s:Shared) (σ:St) (H:Hp) (x:V) (xs:List V) (v:Value) (us:List Value) (Q:VK),Inv X pins σ H s→RelV x v→Vals xs us→r x xs H Q →
   wpAny (model X.prog X.w) X.A (call (.builtin id) (v::us)) (EP X pins σ Q) X.xe s
section
variable {X:Cx}{a b:Expr}{ta tb:TE}{pos:Pos}
theorem IxR.or {r r':R2} (h:IxR X r) (h':IxR X r'):IxR X (fun x y H Q=>r x y H Q∨r' x y H Q):=by
 intro value slice pins s σ H x y v u Q I rx ry q hs
 rcases q with q | q
 · exact h value slice pins s σ H x y v u Q I rx ry q hs
 · exact h' value slice pins s σ H x y v u Q I rx ry q hs
theorem pe_ix {r:R2} (hr:IxR X r) (ha:PE X a ta) (hb:PE X b tb) (hs:PlainIx b):PE X (.Subscript a b pos) (tOp r ta tb):=by
 intro pins s σ H Q I h
 exact Subscript_ (binT ha hb I h fun v u s2 x y H2 I2 rx ry q=>hr a b pins s2 σ H2 x y v u Q I2 rx ry q (hs _ _))

def rIxL (K:PySem.W.Frag):R2:=fun x y H Q=>∃p xs i v,x=.ref p∧y=.int i∧SqL K H p xs∧atI xs i=some v∧Q v H
def rIxT (K:PySem.W.Frag):R2:=fun x y H Q=>∃p xs i v,x=.ref p∧y=.int i∧SqT K H p xs∧atI xs i=some v∧Q v H
def rIxS:R2:=fun x y H Q=>∃z i c,x=.str z∧y=.int i∧z.length≤sizeLine∧atI z.cps.toList i=some c∧Q (.str ⟨#[c]⟩) H
theorem ix_list:IxR X (rIxL X.K):=by
 intro value slice pins s σ H x y v u Q I rx ry h hs
 obtain ⟨p,xs,i,z,rfl,rfl,hq,he,q⟩:=h
 cases rx
 obtain ⟨t,rfl⟩:=ry
 obtain ⟨its,r,pl,hz⟩:=I.list hq
 obtain ⟨j,h1,h2,h3,h4,h5⟩:=zqe he
 obtain ⟨w,ew,rw'⟩:=r.get h2
 have hl:=r.length
 have hn:=znk
 have fin:EP X pins σ Q w s:=⟨z,H,I,rw',q⟩
 by_cases h0:0≤i
 · have hj:i.toNat=j:=by
     rw [seqIndex_of h0 h5] at h1
     exact Option.some.inj h1
   exact item_listR pl.isList h0 (by omega) (by rw [hj];simpa using ew) fin hs
 · have hj:(i + (its.toArray.size:Int)).toNat=j:=by
     rw [seqIndex_neg (by omega) h4] at h1
     rw [List.size_toArray,← hl]
     exact Option.some.inj h1
   exact subscriptTail_builtinR (x:=w) pl.isList.typeIs slot_list_getitem.lookup
     (wpAny_getItem_list_neg (Q:=fun r s'=>r=w∧EP X pins σ Q r s') pl.isList (by omega) (by rw [List.size_toArray] <;> omega) (by omega) (by rw [hj];simpa using ew) ⟨rfl,fin⟩) hs
theorem ix_tup:IxR X (rIxT X.K):=by
 intro value slice pins s σ H x y v u Q I rx ry h hs
 obtain ⟨p,xs,i,z,rfl,rfl,hq,he,q⟩:=h
 cases rx
 obtain ⟨t,rfl⟩:=ry
 obtain ⟨its,r,pl,hz⟩:=I.tuple hq
 obtain ⟨j,h1,h2,h3,h4,h5⟩:=zqe he
 obtain ⟨w,ew,rw'⟩:=r.get h2
 have hl:=r.length
 have hn:=znk
 have fin:EP X pins σ Q w s:=⟨z,H,I,rw',q⟩
 exact subscriptTail_builtinR (x:=w) pl.typeIs slot_tuple_getitem.lookup
   (getItem_tuple (j:=j) (Q:=fun r s'=>r=w∧EP X pins σ Q r s') pl (by omega) (by omega) (by rw [List.size_toArray,← hl];exact h1) (by simpa using ew) ⟨rfl,fin⟩) hs
theorem ix_str:IxR X rIxS:=by
 intro value slice pins s σ H x y v u Q I rx ry h hs
 obtain ⟨z,i,c,rfl,rfl,hz,he,q⟩:=h
 obtain ⟨t,rfl⟩:=rx
 obtain ⟨t',rfl⟩:=ry
 obtain ⟨j,h1,h2,h3,h4,h5⟩:=zqe he
 have hl:z.cps.toList.length=z.length:=by simp [Str.length]
 rw [hl] at h1 h4 h5
 have hn:=znk
 exact tail_any (typeIs_str s z t) slot_str_getitem.lookup (getItem_str (c:=c) (by
   have e1:decide (i < -(2 ^ 63:Int))=false:=decide_eq_false (by omega)
   have e2:decide (i ≥ 2 ^ 63)=false:=decide_eq_false (by omega)
   rw [e1,e2,Bool.or_false]) (by rw [h1];simpa using h2) ⟨.str ⟨#[c]⟩,H,I.tok _,⟨_,rfl⟩,q⟩) hs
def rIx (K:PySem.W.Frag):R2:=fun x y H Q=>rIxL K x y H Q∨rIxT K x y H Q∨rIxS x y H Q
theorem ix_seq:IxR X (rIx X.K):=ix_list.or (ix_tup.or ix_str)

theorem znc (lo hi:Option Int) (n:Nat):(sliceBounds lo hi none n).1=((HT.sIx n 0 lo:Nat):Int)∧(sliceBounds lo hi none n).2.1=((HT.sIx n n hi:Nat):Int)∧(sliceBounds lo hi none n).2.2=1:=by
 refine ⟨?_,?_,rfl⟩
 · cases lo with
   | none=>simp [sliceBounds,HT.sIx]
   | some i =>
     simp only [sliceBounds,HT.sIx,Option.getD_none,show (1:Int) > 0 by decide,if_true]
     by_cases h:i < 0
     · simp only [h,if_true] <;> omega
     · simp only [h,if_false] <;> omega
 · cases hi with
   | none=>simp [sliceBounds,HT.sIx]
   | some i =>
     simp only [sliceBounds,HT.sIx,Option.getD_none,show (1:Int) > 0 by decide,if_true]
     by_cases h:i < 0
     · simp only [h,if_true] <;> omega
     · simp only [h,if_false] <;> omega
theorem zlh (its:List Value) (lo hi:Option Int):slicePick its.toArray lo hi none=((its.drop (HT.sIx its.length 0 lo)).take (HT.sIx its.length its.length hi - HT.sIx its.length 0 lo)).toArray:=by
 obtain ⟨h1,h2,h3⟩:=znc lo hi its.toArray.size
 unfold slicePick
 rw [h1,h2,h3]
 simp only [sliceRange_one,pick_run,List.size_toArray] <;> rfl
def rSlL (K:PySem.W.Frag):V→Option Int→Option Int→Hp→VK→Prop:=fun x lo hi H Q=>∃a xs,x=.ref a∧SqL K H a xs∧∀p,H p=none→Q (.ref p) (upd H p (.lst (cutV xs lo hi)))
theorem sl_list:SlR X (rSlL X.K):=by
 intro pins s σ H x v vl vu lo hi sl Q I rx hs pl pu h
 obtain ⟨a,xs,rfl,hx,q⟩:=h
 cases rx
 obtain ⟨its,r,ht,hz⟩:=I.list hx
 have hlen:=r.length
 refine ⟨"list",_,slot_list_getitem.lookup,ht.isList.typeIs,?_⟩
 refine wpAny_getItem_list_slice ht.isList hs pl pu .none (by simp) ?_ (by rw [List.size_toArray] <;> omega)
 rw [zlh,← hlen]
 refine ⟨.ref s.heap.objs.size,_,I.laid (t':=s.toks) (o:=.lst (cutV xs lo hi)) (fun b ob q=>Heap.get?_push_of_some _ q) (Nat.le_refl _) ?_,rfl,q _ (I.hok.fresh (Nat.le_refl _))⟩
 exact ⟨Nat.le_trans (zjd xs lo hi) hz,_,0,(r.drop (HT.sIx xs.length 0 lo)).take (HT.sIx xs.length xs.length hi - HT.sIx xs.length 0 lo),Heap.get?_push_size _ rfl⟩

def zpo:V→Bool
 | .non=>true
 | .bl _=>true
 | .int _=>true
 | .str _=>true
 | _=>false
def eqV:V→V→Bool
 | .non,.non=>true
 | .bl a,.bl b=>a == b
 | .bl a,.int b=>(if a then 1 else 0) == b
 | .int a,.bl b=>a == (if b then 1 else 0)
 | .int a,.int b=>a == b
 | .str a,.str b=>a == b
 | _,_=>false
theorem eqAt_V {A:Around}{s:Shared}{y x:V}{u v:Value} (ry:RelV y u) (rx:RelV x v) (fy:zpo y=true) (fx:zpo x=true):SeqAt.EqAt A s u v (eqV y x):=by
 cases y with
 | non =>
   cases ry
   cases x with
   | non=>cases rx;exact SeqAt.EqAt.same _
   | bl b=>cases rx;exact SeqAt.EqAt.none_bool b
   | int b=>obtain ⟨t,rfl⟩:=rx;exact SeqAt.EqAt.none_int b t
   | str b=>obtain ⟨t,rfl⟩:=rx;exact SeqAt.EqAt.none_str b t
   | _=>exact absurd (show false=true from fx) Bool.false_ne_true
 | bl a =>
   cases ry
   cases x with
   | non=>cases rx;exact SeqAt.EqAt.bool_none a
   | bl b=>cases rx;exact SeqAt.EqAt.bool_bool a b
   | int b=>obtain ⟨t,rfl⟩:=rx;exact SeqAt.EqAt.bool_int a b t
   | str b=>obtain ⟨t,rfl⟩:=rx;exact SeqAt.EqAt.bool_str a b t
   | _=>exact absurd (show false=true from fx) Bool.false_ne_true
 | int a =>
   obtain ⟨t',rfl⟩:=ry
   cases x with
   | non=>cases rx;exact SeqAt.EqAt.int_none a t'
   | bl b=>cases rx;exact SeqAt.EqAt.int_bool a t' b
   | int b=>obtain ⟨t,rfl⟩:=rx;exact SeqAt.EqAt.int_int a t' b t
   | str b=>obtain ⟨t,rfl⟩:=rx;exact SeqAt.EqAt.int_str a t' b t
   | _=>exact absurd (show false=true from fx) Bool.false_ne_true
 | str a =>
   obtain ⟨t',rfl⟩:=ry
   cases x with
   | non=>cases rx;exact SeqAt.EqAt.str_none a t'
   | bl b=>cases rx;exact SeqAt.EqAt.str_bool a t' b
   | int b=>obtain ⟨t,rfl⟩:=rx;exact SeqAt.EqAt.str_int a t' b t
   | str b=>obtain ⟨t,rfl⟩:=rx;exact SeqAt.EqAt.str_str a t' b t
   | _=>exact absurd (show false=true from fx) Bool.false_ne_true
 | _=>exact absurd (show false=true from fy) Bool.false_ne_true
theorem call_len_seq:CallR X (.builtin "len") (fun xs H Q=>∃p ys,xs=[.ref p]∧(SqL X.K H p ys∨SqT X.K H p ys)∧Q (.int ys.length) H):=by
 intro pins s σ H xs us Q I r h
 obtain ⟨p,ys,rfl,hq,q⟩:=h
 obtain ⟨u,rfl,rx⟩:=vals1 r
 cases rx
 have hn:=znk
 rcases hq with hq | hq
 · obtain ⟨its,r',pl,hz⟩:=I.list hq
   have hlen:=r'.length
   exact Calls.call_len_list pl.isList (by simp only [List.size_toArray] <;> omega) ⟨.int ys.length,H,I.tok _,⟨s.toks + 1,by rw [List.size_toArray,hlen]⟩,q⟩
 · obtain ⟨its,r',pl,hz⟩:=I.tuple hq
   have hlen:=r'.length
   exact len_tuple pl (by simp only [List.size_toArray] <;> omega) ⟨.int ys.length,H,I.tok _,⟨s.toks + 1,by rw [List.size_toArray,hlen]⟩,q⟩
theorem zoj:CallR X (.builtin "len") (fun xs H Q=>∃z,xs=[.str z]∧z.length≤sizeLine∧Q (.int z.length) H):=by
 intro pins s σ H xs us Q I r h
 obtain ⟨z,rfl,hz,q⟩:=h
 obtain ⟨u,rfl,t,rfl⟩:=vals1 r
 have hn:=znk
 exact len_str (by omega) ⟨.int z.length,H,I.tok _,⟨_,rfl⟩,q⟩
theorem CallR.or {f:Value}{r r':List V→Hp→VK→Prop} (h:CallR X f r) (h':CallR X f r'):CallR X f (fun xs H Q=>r xs H Q∨r' xs H Q):=by
 intro pins s σ H xs us Q I rs q
 rcases q with q | q
 · exact h pins s σ H xs us Q I rs q
 · exact h' pins s σ H xs us Q I rs q
theorem zoi:CallR X (.type "list") (fun xs H Q=>∃p ys,xs=[.ref p]∧(SqL X.K H p ys∨SqT X.K H p ys)∧∀l,H l=none→Q (.ref l) (upd H l (.lst ys))):=by
 intro pins s σ H xs us Q I r h
 obtain ⟨p,ys,rfl,hq,q⟩:=h
 obtain ⟨u,rfl,rx⟩:=vals1 r
 cases rx
 have fin:∀(its:List Value),Vals ys its→ys.length≤sizeLine→∀(h':Heap) (c':Nat),(∀b o',s.heap.get? b=some o'→h'.get? b=some o') →
     h'.get? s.heap.objs.size=some { cls:=.type "list",dict:=none,data:=.seq its.toArray c',slots:=#[] }→EP X pins σ Q (.ref s.heap.objs.size) { s with heap:=h' }:=fun its r' hz h' c' kp e =>
   ⟨.ref s.heap.objs.size,_,I.laid (t':=s.toks) kp (Nat.le_refl _) (show ObjOk X.prog X.w _ h' _ (.lst ys) from ⟨hz,its,c',r',e⟩),rfl,q _ (I.hok.fresh (Nat.le_refl _))⟩
 rcases hq with hq | hq
 · obtain ⟨its,r',pl,hz⟩:=I.list hq
   have hlen:=r'.length
   obtain ⟨o,ho,hc,n,hd⟩:=pl.isList
   exact call_list_seq p (.inl rfl) ho hc hd (fun h' c' kp e=>fin its r' hz h' c' kp e) (by simp only [List.size_toArray] <;> omega)
 · obtain ⟨its,r',pl,hz⟩:=I.tuple hq
   have hlen:=r'.length
   obtain ⟨o,ho,hc,n,hd⟩:=pl
   exact call_list_seq p (.inr rfl) ho hc hd (fun h' c' kp e=>fin its r' hz h' c' kp e) (by simp only [List.size_toArray] <;> omega)
def tyV (K:PySem.W.Frag) (T:String) (x:V) (H:Hp):Prop:=match x with
 | .str _=>T="str"
 | .int _=>T="int"
 | .ref p=>(T="list"∧∃xs,SqL K H p xs)∨(T="tuple"∧∃o,K.lookup p=some o∧o.cls=.type "tuple"∧o.dict=none) ∨
     (T="dict"∧((∃kvs,H p=some (.dK kvs))∨∃kvs,H p=some (.dT kvs)))∨(T="set"∧∃S n,H p=some (.set S n))
 | _=>False
theorem tyV_is {pins:List (Addr×Obj)}{σ:St}{H:Hp}{s:Shared}{T:String}{x:V}{v:Value} (I:Inv X pins σ H s) (r:RelV x v) (ty:tyV X.K T x H) :
   s.TypeIs v T∧∀a,v=.ref a→∃ob,s.heap.get? a=some ob∧ob.dict=none:=by
 cases x with
 | str z =>
   obtain ⟨t,rfl⟩:=r
   cases (show T="str" from ty)
   exact ⟨typeIs_str s z t,fun _ e=>nomatch e⟩
 | int i =>
   obtain ⟨t,rfl⟩:=r
   cases (show T="int" from ty)
   exact ⟨typeIs_int s i t,fun _ e=>nomatch e⟩
 | ref p =>
   cases r
   rcases ty with ⟨rfl,xs,hq⟩ | ⟨rfl,o,hk,hc,hd⟩ | ⟨rfl,hk⟩ | ⟨rfl,S,n,hk⟩
   · obtain ⟨its,_,pl,_⟩:=I.list hq
     refine ⟨pl.isList.typeIs,fun a e=>?_⟩
     cases e
     obtain ⟨o,n,e,c,hd,_⟩:=pl
     exact ⟨o,e,hd⟩
   · refine ⟨⟨o,I.kIn p o hk,hc⟩,fun a e=>?_⟩
     cases e
     exact ⟨o,I.kIn _ o hk,hd⟩
   · have z:∃o,s.heap.get? p=some o∧o.ExactDict:=by
       rcases hk with ⟨kvs,hk⟩ | ⟨kvs,hk⟩
       · obtain ⟨_,_,_,_,o,_,_,e,ex,_⟩:=I.hok p _ hk
         exact ⟨o,e,ex⟩
       · obtain ⟨_,_,_,_,o,_,_,e,ex,_⟩:=I.hok p _ hk
         exact ⟨o,e,ex⟩
     obtain ⟨o,e,ex⟩:=z
     refine ⟨⟨o,e,ex.1⟩,fun a e2=>?_⟩
     cases e2
     exact ⟨o,e,ex.2.1⟩
   · obtain ⟨o,_,_,_,e,ex,_⟩:=I.hok p _ hk
     refine ⟨⟨o,e,ex.1⟩,fun a e2=>?_⟩
     cases e2
     exact ⟨o,e,ex.2.1⟩
 | _=>exact False.elim ty
def tBM (K:PySem.W.Frag) (T:String) (r:V→List V→Hp→VK→Prop) (to:TE) (t:TA):TE:=fun σ H Q=>to σ H fun x H1=>tyV K T x H1∧t σ H1 fun xs H2=>r x xs H2 Q
variable {o e:Expr}{es:List Expr}{to:TE}{t:TA}{name:Str}{apos cpos:Pos}{T id:String}{r:V→List V→Hp→VK→Prop}
theorem pe_bm (pa:PlainAttrs T) (slot:Slot T name id) (hty:typeOf (.builtin id)=pure (.type "method_descriptor")) (hm:MtR X id r) (ho:PE X o to) (ha:PA X (e::es) t)
   (hbase:attributeBase o name X.env (eval o X.env)=eval o X.env:=by rfl)
   (hfew:((backTo cpos (starEach (e::es) X.env)).all (fun x=>!x.1) && (backToKw cpos (keywordEach [] X.env)).all (fun x=>x.1.isSome)
     && decide ((e::es).length + ([]:List Keyword).length + (if ([]:List Keyword).isEmpty then 0 else 1) < 30))=true:=by rfl)
   (hline:(apos.endLine == cpos.line)=true:=by rfl) (hs:starEach (e::es) X.env=(false,eval e X.env)::starEach es X.env:=by rfl) (hplain:(backTo cpos (starEach es X.env)).any (·.1)=false:=by rfl) :
   PE X (.Call (.Attribute o name apos) (e::es) [] cpos) (tBM X.K T r to t):=by
 intro pins s σ H Q I h
 refine wpAny_Call_method_late hbase hfew hline rfl (thn (ho pins s σ H _ I h) fun v s1 ⟨x,H1,I1,r1,ty,q1⟩=>?_)
 obtain ⟨h1,h2⟩:=tyV_is I1 r1 ty
 refine ⟨T,id,pa,slot,hty,h1,h2,?_⟩
 have hA:=ha cpos pins s1 σ H1 _ I1 q1
 rw [hs] at hA ⊢
 refine Calls.callWith_builtin (by show (false || (backTo cpos (starEach es X.env)).any (·.1))=false;rw [hplain] <;> rfl) (Calls.evalArgs_plain ?_)
 exact thn hA fun us s2 ⟨vs,H2,I2,r2,q2⟩=>hm pins s2 σ H2 x vs v us Q I2 r1 r2 q2
/- xs.append(e),list.index on a module's tuple .. are MtR facts of 06m -/
end
end L2

namespace L2
open PySem PySem.Spec PyProof.Rows

def MtM (X:Cx) (id:String) (r:V→List V→Hp→VK→Prop):Prop :=
 ∀(pins:List (Addr×Obj)) (s:Shared) (σ:St) (H:Hp) (x:V) (xs:List V) (v:Value) (us:List Value) (Q:VK),Inv X pins σ H s→RelV x v→Vals xs us→r x xs H Q →
   wpAny (model X.prog X.w) X.A (call (.builtin id) (v::us)) (EP X pins σ Q) X.xe s

theorem Vals.one:∀{x:V}{us:List Value},Vals [x] us→∃u,us=[u]∧RelV x u
 | _,_,.cons r .nil=>⟨_,rfl,r⟩
theorem Vals.dropLast {xs:List V}{us:List Value} (h:Vals xs us):Vals xs.dropLast us.dropLast:=by
 induction h with
 | nil=>exact .nil
 | cons r t ih =>
   cases t with
   | nil=>exact .nil
   | cons q t'=>exact .cons r ih
theorem Vals.reverse {xs:List V}{us:List Value} (h:Vals xs us):Vals xs.reverse us.reverse:=by
 induction h with
 | nil=>exact .nil
 | cons r t ih=>rw [List.reverse_cons,List.reverse_cons];exact Vals.append ih (.cons r .nil)
section
variable {X:Cx}{pins:List (Addr×Obj)}{σ:St}{H:Hp}{s:Shared}{l b:Addr}{xs ys zs:List V}

theorem Inv.lset {its its':List Value}{n:Nat}{f:Array Value→Array Value}{t':Nat} (I:Inv X pins σ H s) (hH:H l=some (.lst xs))
   (e:s.heap.get? l=some { cls:=.type "list",data:=.seq its.toArray n }) (hf:f its.toArray=its'.toArray) (hv:Vals ys its') (hz:ys.length≤sizeLine) :
   Inv X pins σ (upd H l (.lst ys)) { s with heap:=s.heap.update l (Obj.mapSeq f),toks:=t' }:=by
 have q:=PySem.IsL.update e f
 rw [hf] at q
 refine I.write (x:=l) (e:=l) (by rw [hH];exact trivial) (.inl rfl) (fun b' u hb hu=>(Heap.get?_update_other s.heap (Obj.mapSeq f) (Ne.symm hb)).trans hu) ⟨_,q⟩ ?_
 exact ⟨hz,its',_,hv,q⟩
theorem Inv.lnew {its:List Value}{t':Nat} (I:Inv X pins σ H s) (hv:Vals ys its) (hz:ys.length≤sizeLine) :
   Inv X pins σ (upd H s.heap.objs.size (.lst ys)) { s with heap:=s.heap.push { cls:=.type "list",data:=.seq its.toArray },toks:=t' } :=
 I.laid (fun _ _ q=>Heap.get?_push_of_some _ q) (Nat.le_refl _) ⟨hz,its,0,hv,Heap.get?_push_size _ rfl⟩
theorem Inv.fresh (I:Inv X pins σ H s):H s.heap.objs.size=none:=I.hok.fresh (Nat.le_refl _)
theorem Inv.lstM (I:Inv X pins σ H s) (hH:H l=some (.lst xs)):xs.length≤sizeLine∧∃(its:List Value) (n:Nat),Vals xs its∧xs.length=its.length∧s.heap.get? l=some { cls:=.type "list",data:=.seq its.toArray n }:=by
 obtain ⟨z,its,n,r,e⟩:=I.hok l _ hH
 exact ⟨z,its,n,r,r.length,e⟩

end

section
variable {X:Cx}

def rAppend:V→List V→Hp→VK→Prop:=fun x vs H Q=>∃l xs y,x=.ref l∧vs=[y]∧H l=some (.lst xs)∧xs.length < sizeLine∧Q .non (upd H l (.lst (xs++[y])))
theorem zvw:MtM X "list.append" rAppend:=by
 intro pins s σ H x vs v us Q I rx rv h
 obtain ⟨l,xs,y,rfl,rfl,hH,hz,q⟩:=h
 cases rx
 obtain ⟨u,rfl,ru⟩:=rv.one
 obtain ⟨z,its,n,r,hl,e⟩:=I.lstM hH
 refine call_meets F.slot_list_append ⟨_,e,rfl⟩ F.entry_list_append (F.args_list_append_2 _ _) (PySem.list_append l its.toArray n u (by rw [List.size_toArray];omega)) ⟨e,?_⟩
 refine ⟨.non,_,I.lset (its':=its++[u]) hH e (by simp) (r.append (.cons ru .nil)) ?_,rfl,q⟩
 rw [List.length_append,List.length_singleton]
 omega

end


end L2

namespace Att
open PySem PySem.W PySem.Calls PyProof.Rows

theorem ziu {P:Params}{h:Heap}:∀(ns:List Int) (vs:List Value),WellAll P h vs (ns.map WData.int)→IntsAre vs ns:=by
 intro ns
 induction ns with
 | nil =>
   intro vs w
   rw [List.map_nil] at w
   cases w
   exact .nil
 | cons n ns ih =>
   intro vs w
   rw [List.map_cons] at w
   cases w with
   | cons a b =>
     cases a
     exact .cons _ _ (ih _ b)

theorem zuz {l:OpenLaw}{n:Nat} (hn:l.most=some n) {P:Params}{h:Heap}{args:List WData}{vals:List Value}
   (hpre:l.row.toRowW.claim.pre args=true) (hwl:WellAll P h vals args) :
   ∃a vs ns,vals=[Value.ref a]∧args=[WData.list (ns.map WData.int)]∧h.get? a=some { cls:=.type "list",data:=.seq vs.toArray }∧IntsAre vs ns∧ns.length≤n:=by
 have hsh:WShape.hasAll [] args [.list .int]=true:=(pre_splitW hpre).1
 have hc:l.pre.holds [] { args:=args }=true:=(pre_splitW hpre).2
 obtain ⟨d,r,rfl,h1,h2⟩:=hasAllW_cons hsh
 obtain rfl:=hasAllW_nil h2
 obtain ⟨xs,rfl,h3⟩:=hasW_list h1
 obtain ⟨ns,rfl⟩:=items_int h3
 have hlen:ns.length≤n:=by
   unfold OpenLaw.pre at hc
   have h4:(WTm.not (.lt (.lit (.int (n:Int))) (.len (.arg 0)))).holds [] { args:=[.list (ns.map .int)] }=true:=by
     have h4:=(holds_andW hc).1
     rw [hn] at h4
     exact h4
   have h5:=condW_of h4 (w_not (w_lt w_lit (w_len_list (w_arg rfl))))
   rw [List.length_map] at h5
   refine Nat.le_of_not_lt fun q=>?_
   have q':(n:Int) < ((ns.length:Nat):Int):=by omega
   first
     | (rw [decide_eq_true q'] at h5;exact absurd h5 (by decide))
     | (simp at h5;omega)
 cases hwl with
 | cons w1 w2 =>
   cases w2
   cases w1 with
   | list ho hall=>exact ⟨_,_,ns,rfl,rfl,ho,ziu ns _ hall,hlen⟩

theorem zvl (l:OpenLaw) (args:List WData):l.row.toRowW.claim.post args (.bool true) args=true :=
 postW_of (r:=l.row.toRowW) (X:=(true == true))
   (show WShape.has [] (.bool true) .bool=true by first | rfl | decide | simp [WShape.has,WShape.arms,WShape.armsAll])
   (show (WTm.eq .res (.lit (.bool true))).value [] { args:=args,res:=some (.bool true),after:=args }=some (.bool (true == true)) from w_eq_bool (w_res rfl) w_lit) rfl

theorem attach_call {l:OpenLaw}{n:Nat}{q:Program}{loose:List Str}{XP:(Str→Option Value)→Heap→Prop}{YP:World→Heap→Prop}{d:DefRec}
   (hn:l.most=some n) (hdf:d.params.defaults=[])
   (call:∀(w:World) (s₀ s₁:Shared) (mg mb:Str→Option Value) (fa:Addr) (o:Obj) (pm cd doc:Value) (a:Addr) (vs:List Value) (ns:List Int),
     Ground q loose [] XP w s₀ mg mb s₁.heap→YP w s₁.heap →
     s₁.heap.get? fa=some o→o.data=.func (docDef d.name d.params d.body d.scope pm cd doc)→s₁.heap.CodeRec cd d.name→mg d.name=some (.ref fa) →
     s₁.heap.get? a=some { cls:=.type "list",data:=.seq vs.toArray }→IntsAre vs ns→ns.length≤n→s₁.gens=#[] →
     codeAny (model l.prog w) callerA (.call (.ref fa) ⟨[.ref a],[]⟩) (fun r s'=>r=.ok (.ret (.bool true))∧OldK s₁.heap s'.heap∧s'.os=s₁.os∧AllBare s'.gens) s₁) :
   WalkO q loose XP YP l.row.toRowW d [] (fun f vs=>PySem.call f vs):=by
 intro w s₀ s₁ mg mb G Y fa o pm cd doc dV kV ho hd hcd hD hmg hg args vals as hpre hlay hrd hwl hlo
 obtain rfl:dV=.none:=Dflts.none hD hdf
 obtain rfl:kV=.none:=Dflts.noKw hD
 obtain ⟨a,vs,ns,rfl,rfl,hobj,hints,hlen⟩:=zuz hn hpre hwl
 refine enter_call (codeAny_mono (call w s₀ s₁ mg mb fa o pm cd doc a vs ns G Y ho (fd_plain hd) hcd hmg hobj hints hlen hg) fun r s' hq=>?_)
 obtain ⟨rfl,h2,h3,h4⟩:=hq
 exact ⟨.inl ⟨.bool true,.bool true,[],rfl,fun _=>rfl,.bool true,zvl l _,fun _=>⟨List.Pairwise.nil,fun _ hm=>(nomatch hm)⟩⟩,h2,h3,h4⟩

section
variable {prog:Program}{w:World}{A:Around}{E:Value→Shared→Prop}{s:Shared}{K:Frag}

def ledger (h:Heap) (L d:Addr):List (Addr×Obj):=(List.range h.objs.size).filterMap fun a=>if a=L∨a=d then none else (h.get? a).map fun o=>(a,o)
end
end Att

namespace L2
open PySem PySem.Spec PyProof.Rows

theorem zmz:∀{vs:List Value}{ns:List Int},IntsAre vs ns→Vals (ns.map V.int) vs
 | _,_,.nil=>.nil
 | _,_,.cons n t h=>.cons ⟨t,rfl⟩ (zmz h)

end L2

namespace L2
open PySem PySem.Spec PyProof.Rows

abbrev KOf {K:PySem.W.Frag}{h:Heap} (_:K.In h):PySem.W.Frag:=K

end L2

/- THE LAST THEOREM (shape;LID,My.* are yours):
  My.Adr: a structure of the addresses that your layer names (classes,functions);My.Txt K t: a structure (Prop) of the equations over K;
  My.txt_mk:{K}{implicit addresses ..} (e1:nsIn K mainGlobals "law"=some (some (.ref f))) (e2:K.lookup f=some ⟨oc,od,.func (fnOf "law" "law" params body scope dV kV doc pm an cdv ct),sl⟩) (e3:codeIn K cdv "law"=true) ..:∃t,My.Txt K t

set_option maxRecDepth 100000 in
set_option maxHeartbeats 0 in
theorem PySem.Challenge.cw_LID_holds : PySem.Challenge.rw_LID.Holds := by
 w_on;o_law;k_head;(case hw=>w_witness2)
 k_fill
 refine L2.walk_of (l:=PySem.Challenge.rw_LID) (n:=63) (k:=40) (x:="script") (CX:=fun w=>..) (sp:=fun _=>My.sp_law) rfl (by decide) rfl ⟨rfl,by decide,by decide⟩ (fun w h Y=>PySem.W.kIn_of Y) ?F ?S ?C
 case F =>
   intro w mg fa h KX G hmg
   have T:∃t,My.Txt (L2.KOf KX) t:=by
     dsimp only [L2.KOf]                          -- K must stand as «<heap const> w.params» for k_is
     refine' My.txt_mk ?e1 ?e2 ?e3 ..
     (case e1=>PySem.W.k_is)                    -- in the order: a name -> its address -> its object -> its parts
     (case e2=>PySem.W.k_is)
     ..
   obtain ⟨t,T⟩:=T
   have e0:=hmg.symm.trans (PySem.W.mg_of KX G T.law)
   cases e0                                       -- fa is the law's own address
   exact ⟨_,fun s u=>.of_eq rfl,fun base kb nb=>My.law_fn T kb nb⟩     -- if «.of_eq rfl» comes too early: refine' ⟨_,?b,fun base kb nb=>My.law_fn T kb nb⟩;exact fun s u=>.of_eq rfl
 case S=>exact fun w H a ns hl hO hS=>..
 case C=>exact ..
(the tactic k_is has no namespace: write k_is) -/

namespace L2
open PySem PySem.Spec PyProof.Rows

def zmd (s:Stmt) (j:Nat):Stmt:=match s with
 | .ClassDef _ _ _ body _ _ _ _ _ _ _=>body.getD j (.Pass ⟨0,0,0,0⟩)
 | _=>.Pass ⟨0,0,0,0⟩
def zgd (s:Stmt):Arguments:=match s with
 | .FunctionDef _ a _ _ _ _ _ _ _ _=>a
 | _=>{ posonlyargs:=[],args:=[],vararg:=none,kwonlyargs:=[],kw_defaults:=[],kwarg:=none,defaults:=[] }
def zam (s:Stmt):List Stmt:=match s with
 | .FunctionDef _ _ b _ _ _ _ _ _ _=>b
 | _=>[]
def zab (s:Stmt):Scope:=match s with
 | .FunctionDef _ _ _ _ _ _ sc _ _ _=>sc
 | _=>{ kind:=.function,names:=[],isGenerator:=false,isCoroutine:=false }

abbrev CX0:CXT:=fun _ _ _ _ _ _=>False
abbrev E0:XK:=fun _ _ _=>False
theorem zsy {X:Cx}:zkz CX0 X E0:=fun _ _ _ _ _ _ _ h=>h.elim


theorem iteF {A B:Prop} (h:B):if false=true then A else B:=by
 rw [if_neg Bool.false_ne_true]
 exact h
theorem iteT {A B:Prop} (h:A):if true=true then A else B:=by
 rw [if_pos rfl]
 exact h
end L2
namespace L2
open PySem PySem.Spec PyProof.Rows




section
variable {X:Cx}{pins:List (Addr×Obj)}{σ:St}{H:Hp}{s:Shared}{a:Addr}{y v:V}{u r:Value}{o:Option V}{A:Around}{E:Value→Shared→Prop}

end










end L2
namespace F
open PySem L2

def nStar:Expr→Bool
 | .Starred ..=>false
 | _=>true
theorem zay {e:Expr}{es:List Expr}{env:Env} (h:nStar e=true):starEach (e::es) env=(false,eval e env)::starEach es env:=by
 cases e <;> first | rfl | cases h
theorem zca {pos:Pos}{env:Env}:∀{es:List Expr},es.all nStar=true→(backTo pos (starEach es env)).any (·.1)=false
 | [],_=>rfl
 | e::es,h=>by
   rw [List.all_cons,Bool.and_eq_true] at h
   rw [zay h.1]
   show (false || (backTo pos (starEach es env)).any (·.1))=false
   rw [zca h.2];rfl
structure LT where
 params:Arguments
 body:Expr
 scope:Scope
 qual:Str
 caps:List Str:=[]
 cl:List (Str×Addr):=[]
inductive D where
 | non | bl (b:Bool) | int (i:Int) | str (x:Str) | fn (x:Str) | ty (n:String)
 | tup (ds:List D) | lst (ds:List D) | obj (i:Nat) | lam (t:LT) | clo (t:LT) (vs:List D)
inductive MO where
 | lst (ds:List D) | ins (c:Str) (fs:List (Str×D)) | dct (kvs:List (Int×D)) | exc (c:Str) | tab (x q:Str)
abbrev Sto:=List MO
abbrev Ev:=List (Option D)
abbrev E:=Ev→Sto→Option (D×Sto)
abbrev B:=Ev→Sto→Option (Bool×Sto)
abbrev As:=Ev→Sto→Option (List D×Sto)
abbrev G:=List D→Sto→Option (D×Sto)
inductive Out where
 | nx (e:Ev) | rt (d:D) | bk (e:Ev) | ct (e:Ev)
abbrev C:=Ev→Sto→Option (Out×Sto)

def TupAt (K:PySem.W.Frag) (ρ:List Addr) (H:Hp) (p:Addr) (vs:List V):Prop :=
 (p∉ρ∧Rd H p (.tup vs))∨∃(o:Obj) (its:Array Value) (n:Nat),K.lookup p=some o∧o.cls=.type "tuple"∧o.data=.seq its n∧its.size≤sizeLine∧Vals vs its.toList
def LstAt (K:PySem.W.Frag) (ρ:List Addr) (H:Hp) (p:Addr) (vs:List V):Prop :=
 (p∉ρ∧Rd H p (.lst vs))∨∃(o:Obj) (its:Array Value) (n:Nat),K.lookup p=some o∧o.cls=.type "list"∧o.dict=none∧o.data=.seq its n∧its.size≤sizeLine∧Vals vs its.toList
theorem TupAt.sq {K ρ H p vs} (h:TupAt K ρ H p vs):SqT K H p vs:=by
 rcases h with ⟨_,h⟩ | h
 · exact .inl h
 · exact .inr h
theorem LstAt.sq {K ρ H p vs} (h:LstAt K ρ H p vs):SqL K H p vs:=by
 rcases h with ⟨_,h⟩ | h
 · exact .inl h
 · exact .inr h

def zeb (c:Addr) (q:Str):Heap→Prop:=fun h=>h.CodeRec (.ref c) q
def lamP (t:LT) (a c:Addr) (pm ct:Value):Heap→Prop:=fun h=>h.get? a=some (PySem.W.kla_obj "<lambda>" t.qual t.params t.body t.scope t.cl pm c ct)
def LamAt (ρ:List Addr) (H:Hp) (t:LT) (a:Addr):Prop:=a∉ρ∧∃c pm ct,c∉ρ∧H a=some (.ext (lamP t a c pm ct))∧H c=some (.ext (zeb c t.qual))
def cloP (t:LT) (cl:List (Str×Addr)) (a c:Addr) (pm ct:Value):Heap→Prop:=fun h=>h.get? a=some (PySem.W.kla_obj "<lambda>" t.qual t.params t.body t.scope cl pm c ct)
def Cells (ρ:List Addr) (H:Hp):List Str→List V→List (Str×Addr)→Prop
 | [],[],[]=>True
 | x::xs,u::us,p::cl=>p.1=x∧p.2∉ρ∧(∃(o:Obj) (w:Value),H p.2=some (.frz o (.own 0))∧o.data=.cell (some w)∧RelV u w)∧Cells ρ H xs us cl
 | _,_,_=>False
def CloAt (ρ:List Addr) (H:Hp) (t:LT) (us:List V) (a:Addr):Prop:=a∉ρ∧∃c pm ct cl,c∉ρ∧H a=some (.ext (cloP t cl a c pm ct))∧H c=some (.ext (zeb c t.qual))∧(cl.map (·.2)).Nodup∧Cells ρ H t.caps us cl
section
variable (K:PySem.W.Frag) (mg:Str→Option Value)
mutual
def Rep (ρ:List Addr) (H:Hp):D→V→Prop
 | .non,v=>v=.non
 | .bl b,v=>v=.bl b
 | .int i,v=>v=.int i
 | .str x,v=>v=.str x
 | .fn x,v=>∃a,v=.ref a∧mg x=some (.ref a)
 | .ty n,v=>v=.ty n
 | .tup ds,v=>∃p vs,v=.ref p∧TupAt K ρ H p vs∧RepL ρ H ds vs
 | .lst ds,v=>∃p vs,v=.ref p∧LstAt K ρ H p vs∧RepL ρ H ds vs
 | .obj i,v=>∃a,v=.ref a∧ρ[i]? = some a
 | .lam t,v=>∃a,v=.ref a∧LamAt ρ H t a
 | .clo t vs,v=>∃a us,v=.ref a∧CloAt ρ H t us a∧RepL ρ H vs us
def RepL (ρ:List Addr) (H:Hp):List D→List V→Prop
 | [],vs=>vs=[]
 | d::ds,vs=>∃v r,vs=v::r∧Rep ρ H d v∧RepL ρ H ds r
end
end

structure Ext (ρ:List Addr) (H:Hp) (ρ':List Addr) (H':Hp):Prop where
 pre:∀(i:Nat) (a:Addr),ρ[i]? = some a→ρ'[i]? = some a
 keep:∀b o,H b=some o→b∉ρ→H' b=some o
 new:∀b,b∈ρ'→b∉ρ→H b=none
theorem Ext.refl (ρ:List Addr) (H:Hp):Ext ρ H ρ H:=⟨fun _ _ h=>h,fun _ _ h _=>h,fun _ h n=>absurd h n⟩
theorem Ext.out {ρ ρ' H H'} (e:Ext ρ H ρ' H') {b:Addr}{o:HO} (h:H b=some o) (n:b∉ρ):b∉ρ':=fun z=>by
 have:=e.new b z n
 rw [h] at this;cases this
theorem Ext.trans {ρ ρ' ρ'' H H' H''} (a:Ext ρ H ρ' H') (b:Ext ρ' H' ρ'' H''):Ext ρ H ρ'' H'' where
 pre:=fun i x h=>b.pre i x (a.pre i x h)
 keep:=fun c o h n=>b.keep c o (a.keep c o h n) (a.out h n)
 new:=fun c h n=>by
   by_cases z:c∈ρ'
   · exact a.new c z n
   · cases q:H c with
     | none=>rfl
     | some o =>
       have:=a.keep c o q n
       rw [b.new c h z] at this;cases this

section
variable {K:PySem.W.Frag}{mg:Str→Option Value}{ρ ρ':List Addr}{H H':Hp}
theorem TupAt.mono {p vs} (h:TupAt K ρ H p vs) (e:Ext ρ H ρ' H'):TupAt K ρ' H' p vs:=by
 rcases h with ⟨n,h | ⟨o,h⟩⟩ | h
 · exact .inl ⟨e.out h n,.inl (e.keep _ _ h n)⟩
 · exact .inl ⟨e.out h n,.inr ⟨o,e.keep _ _ h n⟩⟩
 · exact .inr h
theorem LstAt.mono {p vs} (h:LstAt K ρ H p vs) (e:Ext ρ H ρ' H'):LstAt K ρ' H' p vs:=by
 rcases h with ⟨n,h | ⟨o,h⟩⟩ | h
 · exact .inl ⟨e.out h n,.inl (e.keep _ _ h n)⟩
 · exact .inl ⟨e.out h n,.inr ⟨o,e.keep _ _ h n⟩⟩
 · exact .inr h
theorem LamAt.mono {t a} (h:LamAt ρ H t a) (e:Ext ρ H ρ' H'):LamAt ρ' H' t a:=by
 obtain ⟨n,c,pm,ct,nc,h1,h2⟩:=h
 exact ⟨e.out h1 n,c,pm,ct,e.out h2 nc,e.keep _ _ h1 n,e.keep _ _ h2 nc⟩
theorem Cells.mono (e:Ext ρ H ρ' H'):∀{xs:List Str}{us:List V}{cl:List (Str×Addr)},Cells ρ H xs us cl→Cells ρ' H' xs us cl
 | [],[],[],_=>trivial
 | x::xs,u::us,p::cl,h=>by
   obtain ⟨h1,h2,⟨o,w,h3,h4⟩,h5⟩:=h
   exact ⟨h1,e.out h3 h2,⟨o,w,e.keep _ _ h3 h2,h4⟩,Cells.mono e h5⟩
 | [],[],_::_,h=>h.elim
 | [],_::_,_,h=>h.elim
 | _::_,[],_,h=>h.elim
 | _::_,_::_,[],h=>h.elim
theorem CloAt.mono {t us a} (h:CloAt ρ H t us a) (e:Ext ρ H ρ' H'):CloAt ρ' H' t us a:=by
 obtain ⟨n,c,pm,ct,cl,nc,h1,h2,h3,h4⟩:=h
 exact ⟨e.out h1 n,c,pm,ct,cl,e.out h2 nc,e.keep _ _ h1 n,e.keep _ _ h2 nc,h3,h4.mono e⟩
mutual
theorem Rep.mono (e:Ext ρ H ρ' H'):∀{d:D}{v:V},Rep K mg ρ H d v→Rep K mg ρ' H' d v
 | .non,_,h=>h
 | .bl _,_,h=>h
 | .int _,_,h=>h
 | .str _,_,h=>h
 | .fn _,_,h=>h
 | .ty _,_,h=>h
 | .tup ds,_,h=>by
   unfold Rep at h ⊢
   obtain ⟨p,vs,e1,t,r⟩:=h
   exact ⟨p,vs,e1,t.mono e,RepL.mono e r⟩
 | .lst ds,_,h=>by
   unfold Rep at h ⊢
   obtain ⟨p,vs,e1,t,r⟩:=h
   exact ⟨p,vs,e1,t.mono e,RepL.mono e r⟩
 | .obj i,_,h=>by
   unfold Rep at h ⊢
   obtain ⟨a,e1,t⟩:=h
   exact ⟨a,e1,e.pre _ _ t⟩
 | .lam t,_,h=>by
   unfold Rep at h ⊢
   obtain ⟨a,e1,t⟩:=h
   exact ⟨a,e1,t.mono e⟩
 | .clo t vs,_,h=>by
   unfold Rep at h ⊢
   obtain ⟨a,us,e1,t,r⟩:=h
   exact ⟨a,us,e1,t.mono e,RepL.mono e r⟩
theorem RepL.mono (e:Ext ρ H ρ' H'):∀{ds:List D}{vs:List V},RepL K mg ρ H ds vs→RepL K mg ρ' H' ds vs
 | [],_,h=>h
 | d::ds,_,h=>by
   unfold RepL at h ⊢
   obtain ⟨v,r,e1,h1,h2⟩:=h
   exact ⟨v,r,e1,Rep.mono e h1,RepL.mono e h2⟩
end
theorem RepL.nil:RepL K mg ρ H [] []:=by unfold RepL;rfl
theorem RepL.cons {d ds v vs} (h:Rep K mg ρ H d v) (t:RepL K mg ρ H ds vs):RepL K mg ρ H (d::ds) (v::vs):=by
 unfold RepL;exact ⟨v,vs,rfl,h,t⟩
theorem RepL.length:∀{ds:List D}{vs:List V},RepL K mg ρ H ds vs→ds.length=vs.length
 | [],_,h=>by unfold RepL at h;subst h;rfl
 | d::ds,_,h=>by
   unfold RepL at h
   obtain ⟨v,r,rfl,_,h2⟩:=h
   rw [List.length_cons,List.length_cons,h2.length]
theorem RepL.get:∀{ds:List D}{vs:List V}{i:Nat}{d:D},RepL K mg ρ H ds vs→ds[i]? = some d→∃v,vs[i]? = some v∧Rep K mg ρ H d v
 | [],_,_,_,_,e=>by simp at e
 | d::ds,_,0,x,h,e=>by
   unfold RepL at h
   obtain ⟨v,r,rfl,h1,_⟩:=h
   simp at e;subst e
   exact ⟨v,rfl,h1⟩
 | d::ds,_,i + 1,x,h,e=>by
   unfold RepL at h
   obtain ⟨v,r,rfl,_,h2⟩:=h
   obtain ⟨u,e1,e2⟩:=RepL.get (i:=i) (d:=x) h2 (by simpa using e)
   exact ⟨u,by simpa using e1,e2⟩
theorem RepL.append:∀{ds es:List D}{vs us:List V},RepL K mg ρ H ds vs→RepL K mg ρ H es us→RepL K mg ρ H (ds++es) (vs++us)
 | [],_,_,_,h,t=>by unfold RepL at h;subst h;exact t
 | d::ds,_,_,_,h,t=>by
   unfold RepL at h
   obtain ⟨v,r,rfl,h1,h2⟩:=h
   exact RepL.cons h1 (RepL.append h2 t)
theorem RepL.take:∀{ds:List D}{vs:List V} (n:Nat),RepL K mg ρ H ds vs→RepL K mg ρ H (ds.take n) (vs.take n)
 | _,_,0,_=>by simpa using RepL.nil
 | [],_,_ + 1,h=>by unfold RepL at h;subst h;simpa using RepL.nil
 | d::ds,_,n + 1,h=>by
   unfold RepL at h
   obtain ⟨v,r,rfl,h1,h2⟩:=h
   exact RepL.cons h1 (RepL.take n h2)
theorem RepL.drop:∀{ds:List D}{vs:List V} (n:Nat),RepL K mg ρ H ds vs→RepL K mg ρ H (ds.drop n) (vs.drop n)
 | _,_,0,h=>by simpa using h
 | [],_,_ + 1,h=>by unfold RepL at h;subst h;simpa using RepL.nil
 | d::ds,_,n + 1,h=>by
   unfold RepL at h
   obtain ⟨v,r,rfl,h1,h2⟩:=h
   simpa using RepL.drop n h2
theorem RepL.reverse:∀{ds:List D}{vs:List V},RepL K mg ρ H ds vs→RepL K mg ρ H ds.reverse vs.reverse
 | [],_,h=>by unfold RepL at h;subst h;exact RepL.nil
 | d::ds,_,h=>by
   unfold RepL at h
   obtain ⟨v,r,rfl,h1,h2⟩:=h
   rw [List.reverse_cons,List.reverse_cons]
   exact RepL.append (RepL.reverse h2) (RepL.cons h1 RepL.nil)
end

def RepF (K:PySem.W.Frag) (mg:Str→Option Value) (ρ:List Addr) (H:Hp) (fs:List (Str×D)) (vs:List (Str×V)):Prop :=
 vs.map (·.1)=fs.map (·.1)∧RepL K mg ρ H (fs.map (·.2)) (vs.map (·.2))
def TabOf (K:PySem.W.Frag) (mg:Str→Option Value) (x:Str) (a:Addr):Prop:=∃(f:Addr) (o:Obj) (fd:FuncData) (c:Addr),mg x=some (.ref f)∧K.lookup f=some o∧o.data=.func fd∧fd.code=.ref c∧PySem.W.codeHdIn K c a=true
def MOk (K:PySem.W.Frag) (mg:Str→Option Value) (ρ:List Addr) (H:Hp) (a:Addr):MO→Prop
 | .lst ds=>∃vs,H a=some (.lst vs)∧RepL K mg ρ H ds vs
 | .ins c fs=>∃C dx vs,mg c=some (.ref C)∧H a=some (.ins C dx vs)∧RepF K mg ρ H fs vs
 | .dct kvs=>∃vs:List (Key×V),H a=some (.dK vs)∧vs.map (·.1)=kvs.map (fun p=>Sum.inl p.1)∧RepL K mg ρ H (kvs.map (·.2)) (vs.map (·.2))
 | .exc c=>∃C,mg c=some (.ref C)∧H a=some (.ext fun h=>∃o,h.get? a=some o∧o.cls=.ref C)
 | .tab x q=>TabOf K mg x a∧∃ps:Array Value,H a=some (.tbl ps)∧TriplesOk ps.toList∧∀(pos:Pos) (cv:Value),codeAmong pos ps.toList=some cv→∃c,cv=.ref c∧c∉ρ∧H c=some (.ext (zeb c q))
structure StOk (K:PySem.W.Frag) (mg:Str→Option Value) (ρ:List Addr) (H:Hp) (S:Sto):Prop where
 len:ρ.length=S.length
 nd:ρ.Nodup
 ob:∀(i:Nat) (m:MO) (a:Addr),S[i]? = some m→ρ[i]? = some a→MOk K mg ρ H a m
section
variable {K:PySem.W.Frag}{mg:Str→Option Value}{ρ ρ':List Addr}{H H':Hp}{S:Sto}
theorem MOk.mono {a m} (h:MOk K mg ρ H a m) (e:Ext ρ H ρ' H') (k:H' a=H a):MOk K mg ρ' H' a m:=by
 cases m with
 | lst ds=>obtain ⟨vs,h1,h2⟩:=h;exact ⟨vs,k.trans h1,h2.mono e⟩
 | ins c fs=>obtain ⟨C,dx,vs,h0,h1,h2,h3⟩:=h;exact ⟨C,dx,vs,h0,k.trans h1,h2,h3.mono e⟩
 | dct kvs=>obtain ⟨vs,h1,h2,h3⟩:=h;exact ⟨vs,k.trans h1,h2,h3.mono e⟩
 | exc c=>obtain ⟨C,h1,h2⟩:=h;exact ⟨C,h1,k.trans h2⟩
 | tab x q =>
   obtain ⟨h0,ps,h1,h2,h3⟩:=h
   exact ⟨h0,ps,k.trans h1,h2,fun pos cv z=>let ⟨c,z1,z2,z3⟩:=h3 pos cv z;⟨c,z1,e.out z3 z2,e.keep _ _ z3 z2⟩⟩
theorem MOk.some {a m} (h:MOk K mg ρ H a m):∃o,H a=some o:=by
 cases m with
 | lst ds=>obtain ⟨vs,h1,h2⟩:=h;exact ⟨_,h1⟩
 | ins c fs=>obtain ⟨C,dx,vs,h0,h1,h2,h3⟩:=h;exact ⟨_,h1⟩
 | dct kvs=>obtain ⟨vs,h1,h2,h3⟩:=h;exact ⟨_,h1⟩
 | exc c=>obtain ⟨C,h1,h2⟩:=h;exact ⟨_,h2⟩
 | tab x q=>obtain ⟨_,ps,h1,_⟩:=h;exact ⟨_,h1⟩
theorem StOk.at (s:StOk K mg ρ H S) {i:Nat}{a:Addr} (h:ρ[i]? = some a):∃m,S[i]? = some m∧MOk K mg ρ H a m:=by
 have hi:i < ρ.length:=(List.getElem?_eq_some_iff.mp h).1
 have hj:i < S.length:=by rw [← s.len];exact hi
 exact ⟨S[i],List.getElem?_eq_getElem hj,s.ob i _ a (List.getElem?_eq_getElem hj) h⟩
theorem StOk.adr (s:StOk K mg ρ H S) {i:Nat}{m:MO} (h:S[i]? = some m):∃a,ρ[i]? = some a∧MOk K mg ρ H a m:=by
 have hi:i < S.length:=(List.getElem?_eq_some_iff.mp h).1
 have hj:i < ρ.length:=by rw [s.len];exact hi
 exact ⟨ρ[i],List.getElem?_eq_getElem hj,s.ob i m _ h (List.getElem?_eq_getElem hj)⟩
theorem StOk.mem (s:StOk K mg ρ H S) {a} (h:a∈ρ):∃o,H a=some o:=by
 obtain ⟨i,hi,e⟩:=List.mem_iff_getElem.mp h
 obtain ⟨m,_,q⟩:=s.at (i:=i) (a:=a) (by rw [List.getElem?_eq_getElem hi,e])
 exact q.some
theorem StOk.fresh (s:StOk K mg ρ H S) {p} (h:H p=none):p∉ρ:=fun z=>by
 obtain ⟨o,e⟩:=s.mem z
 rw [h] at e;cases e
theorem zbv (s:StOk K mg ρ H S) {p:Addr} (o:HO) (h:H p=none):Ext ρ H ρ (upd H p o) :=
 ⟨fun _ _ e=>e,fun b u e _=>by rw [zba (zbk e h)];exact e,fun _ z n=>absurd z n⟩
theorem StOk.new (s:StOk K mg ρ H S) {p:Addr} (o:HO) (h:H p=none):StOk K mg ρ (upd H p o) S :=
 ⟨s.len,s.nd,fun i m a e1 e2=>by
   have q:=s.ob i m a e1 e2
   obtain ⟨u,z⟩:=q.some
   exact q.mono (zbv s o h) (zba (zbk z h))⟩
theorem zpp (s:StOk K mg ρ H S) {i:Nat}{a:Addr} (o:HO) (h:ρ[i]? = some a):Ext ρ H ρ (upd H a o) :=
 ⟨fun _ _ e=>e,fun b u e n=>by rw [zba (fun (z:b=a)=>n (by rw [z];exact List.mem_of_getElem? h))];exact e,fun _ z n=>absurd z n⟩
theorem zrb {l:List Addr} (hN:l.Nodup) {i j:Nat}{x:Addr} (a:l[i]? = some x) (b:l[j]? = some x):i=j:=by
 obtain ⟨h1,e1⟩:=List.getElem?_eq_some_iff.mp a
 obtain ⟨h2,e2⟩:=List.getElem?_eq_some_iff.mp b
 exact (List.getElem_inj hN).mp (e1.trans e2.symm)
theorem StOk.set (s:StOk K mg ρ H S) {i:Nat}{a:Addr}{o:HO}{m:MO} (h:ρ[i]? = some a) (q:MOk K mg ρ (upd H a o) a m):StOk K mg ρ (upd H a o) (S.set i m):=by
 refine ⟨by rw [List.length_set];exact s.len,s.nd,fun j m' b e1 e2=>?_⟩
 by_cases hj:j=i
 · subst hj
   have hi:j < S.length:=by rw [← s.len];exact (List.getElem?_eq_some_iff.mp h).1
   rw [List.getElem?_set_self hi] at e1
   cases e1
   rw [h] at e2;cases e2
   exact q
 · rw [List.getElem?_set_ne (Ne.symm hj)] at e1
   exact (s.ob j m' b e1 e2).mono (zpp s o h) (zba fun z=>hj (zrb s.nd (z ▸ e2) h))
theorem zmi (s:StOk K mg ρ H S) {p:Addr} (o:HO) (h:H p=none):Ext ρ H (ρ++[p]) (upd H p o) :=
 ⟨fun i a e=>by rw [List.getElem?_append_left (List.getElem?_eq_some_iff.mp e).1];exact e,fun b u e _=>by rw [zba (zbk e h)];exact e,
   fun b z n=>by
     rcases List.mem_append.mp z with z | z
     · exact absurd z n
     · rw [List.mem_singleton.mp z];exact h⟩
theorem StOk.add (s:StOk K mg ρ H S) {p:Addr}{o:HO}{m:MO} (h:H p=none) (q:MOk K mg (ρ++[p]) (upd H p o) p m):StOk K mg (ρ++[p]) (upd H p o) (S++[m]):=by
 refine ⟨by rw [List.length_append,List.length_append,s.len] <;> rfl,?_,fun j m' b e1 e2=>?_⟩
 · rw [List.nodup_append]
   refine ⟨s.nd,by simp,fun x hx y hy=>?_⟩
   rw [List.mem_singleton.mp hy]
   exact fun z=>s.fresh h (z ▸ hx)
 · by_cases hj:j < S.length
   · rw [List.getElem?_append_left hj] at e1
     rw [List.getElem?_append_left (by rw [s.len];exact hj)] at e2
     have q:=s.ob j m' b e1 e2
     obtain ⟨u,z⟩:=q.some
     exact q.mono (zmi s o h) (zba (zbk z h))
   · rw [List.getElem?_append_right (by omega)] at e1
     rw [List.getElem?_append_right (by rw [s.len];omega)] at e2
     have e0:j - S.length=0:=by
       have:=(List.getElem?_eq_some_iff.mp e1).1
       simp at this;omega
     rw [e0] at e1
     rw [s.len,e0] at e2
     simp at e1 e2
     subst e1 e2
     exact q
theorem Rep.tup {p ds vs}{s:StOk K mg ρ H S} (h:H p=none) (r:RepL K mg ρ H ds vs):Rep K mg ρ (upd H p (.tup vs)) (.tup ds) (.ref p):=by
 unfold Rep
 exact ⟨p,vs,rfl,.inl ⟨s.fresh h,.inl zbj⟩,r.mono (zbv s _ h)⟩
theorem Rep.lst {p ds vs}{s:StOk K mg ρ H S} (h:H p=none) (r:RepL K mg ρ H ds vs):Rep K mg ρ (upd H p (.lst vs)) (.lst ds) (.ref p):=by
 unfold Rep
 exact ⟨p,vs,rfl,.inl ⟨s.fresh h,.inl zbj⟩,r.mono (zbv s _ h)⟩
end

structure EnvR (K:PySem.W.Frag) (mg:Str→Option Value) (ρ:List Addr) (H:Hp) (ev:Ev) (σ:St):Prop where
 len:ev.length=σ.length
 at_:∀(i:Nat) (d:D),ev[i]? = some (some d)→∃v,σ[i]? = some (some v)∧Rep K mg ρ H d v
section
variable {K:PySem.W.Frag}{mg:Str→Option Value}{ρ ρ':List Addr}{H H':Hp}{ev:Ev}{σ:St}
theorem EnvR.mono (h:EnvR K mg ρ H ev σ) (e:Ext ρ H ρ' H'):EnvR K mg ρ' H' ev σ :=
 ⟨h.len,fun i d q=>let ⟨v,a,b⟩:=h.at_ i d q;⟨v,a,b.mono e⟩⟩
theorem EnvR.set (h:EnvR K mg ρ H ev σ) {d v} (r:Rep K mg ρ H d v) (i:Nat):EnvR K mg ρ H (ev.set i (some d)) (σ.set i (some v)):=by
 refine ⟨by rw [List.length_set,List.length_set];exact h.len,fun j x q=>?_⟩
 by_cases hj:j=i
 · subst hj
   have hi:j < ev.length:=by
     have:=(List.getElem?_eq_some_iff.mp q).1
     rwa [List.length_set] at this
   rw [List.getElem?_set_self hi] at q
   cases q
   exact ⟨v,by rw [List.getElem?_set_self (by rw [← h.len];exact hi)],r⟩
 · rw [List.getElem?_set_ne (Ne.symm hj)] at q ⊢
   exact h.at_ j x q
theorem EnvR.start {N:List Str}{ds:List D}{vs:List V} (h:RepL K mg ρ H ds vs):EnvR K mg ρ H (ds.map some++List.replicate (N.length - ds.length) none) (L2.start N vs):=by
 have hl:=h.length
 refine ⟨by unfold L2.start;simp [hl],fun i d q=>?_⟩
 have hi:i < ds.length:=by
   by_cases hi:i < ds.length
   · exact hi
   · rw [List.getElem?_append_right (by simpa using hi),List.getElem?_replicate] at q
     split at q <;> cases q
 rw [List.getElem?_append_left (by simpa using hi),List.getElem?_map] at q
 cases e:ds[i]? with
 | none=>rw [e] at q;cases q
 | some x =>
   rw [e] at q;cases q
   obtain ⟨v,e1,r⟩:=h.get e
   refine ⟨v,?_,r⟩
   unfold L2.start
   rw [List.getElem?_append_left (by simpa [← hl] using hi),List.getElem?_map,e1]
   rfl
end

section
variable (K:PySem.W.Frag) (mg:Str→Option Value)
def tE (f:E):TE:=fun σ H Q=>∃ρ ev S d S',EnvR K mg ρ H ev σ∧StOk K mg ρ H S∧f ev S=some (d,S') ∧
 ∀v ρ' H',Ext ρ H ρ' H'→StOk K mg ρ' H' S'→Rep K mg ρ' H' d v→Q v H'
def tB (f:B):TT:=fun σ H Q=>∃ρ ev S b S',EnvR K mg ρ H ev σ∧StOk K mg ρ H S∧f ev S=some (b,S') ∧
 ∀ρ' H',Ext ρ H ρ' H'→StOk K mg ρ' H' S'→Q b H'
def tAs (f:As):TA:=fun σ H Q=>∃ρ ev S ds S',EnvR K mg ρ H ev σ∧StOk K mg ρ H S∧f ev S=some (ds,S') ∧
 ∀vs ρ' H',Ext ρ H ρ' H'→StOk K mg ρ' H' S'→RepL K mg ρ' H' ds vs→Q vs H'
def Post (D:Ends) (S':Sto) (ρ:List Addr) (H:Hp):Out→Prop
 | .nx e=>∀σ' ρ' H',Ext ρ H ρ' H'→StOk K mg ρ' H' S'→EnvR K mg ρ' H' e σ'→D.nx σ' H'
 | .bk e=>∀σ' ρ' H',Ext ρ H ρ' H'→StOk K mg ρ' H' S'→EnvR K mg ρ' H' e σ'→D.bk σ' H'
 | .ct e=>∀σ' ρ' H',Ext ρ H ρ' H'→StOk K mg ρ' H' S'→EnvR K mg ρ' H' e σ'→D.ct σ' H'
 | .rt d=>∀v ρ' H',Ext ρ H ρ' H'→StOk K mg ρ' H' S'→Rep K mg ρ' H' d v→D.rt v H'
def tC (f:C):TS:=fun D σ H=>∃ρ ev S o S',EnvR K mg ρ H ev σ∧StOk K mg ρ H S∧f ev S=some (o,S')∧Post K mg D S' ρ H o
def spG (g:G):Sp:=fun vs H Q _=>∃ρ ds S d S',RepL K mg ρ H ds vs∧StOk K mg ρ H S∧g ds S=some (d,S') ∧
 ∀v ρ' H',Ext ρ H ρ' H'→StOk K mg ρ' H' S'→Rep K mg ρ' H' d v→Q v H'
end
theorem Post.ext {K mg}{D:Ends}{S':Sto}{ρ ρ' H H'} (e:Ext ρ H ρ' H'):∀{o:Out},Post K mg D S' ρ H o→Post K mg D S' ρ' H' o
 | .nx _,h=>fun σ' _ _ e'=>h σ' _ _ (e.trans e')
 | .bk _,h=>fun σ' _ _ e'=>h σ' _ _ (e.trans e')
 | .ct _,h=>fun σ' _ _ e'=>h σ' _ _ (e.trans e')
 | .rt _,h=>fun v _ _ e'=>h v _ _ (e.trans e')

def FE (X:Cx) (e:Expr) (f:E):Prop:=PE X e (tE X.K X.mg f)
def FB (X:Cx) (e:Expr) (f:B):Prop:=PT X e (tB X.K X.mg f)
def FW (X:Cx) (e:Expr) (f:B):Prop:=PW X e (tB X.K X.mg f)
def FA (X:Cx) (es:List Expr) (f:As):Prop:=PA X es (tAs X.K X.mg f)
def FS (X:Cx) (st:Stmt) (f:C):Prop:=PS X st (tC X.K X.mg f)
def FSs (X:Cx) (st:List Stmt) (f:C):Prop:=PSs X st (tC X.K X.mg f)
theorem zbw {X:Cx}{e:Expr}{t t':TE} (h:PE X e t) (m:∀σ H Q,t' σ H Q→t σ H Q):PE X e t':=fun pins s σ H Q I q=>h pins s σ H Q I (m _ _ _ q)
theorem zic {X:Cx}{e:Expr}{t t':TT} (h:PT X e t) (m:∀σ H Q,t' σ H Q→t σ H Q):PT X e t':=fun pins s σ H Q I q=>h pins s σ H Q I (m _ _ _ q)
theorem zvg {X:Cx}{e:Expr}{t t':TT} (h:PW X e t) (m:∀σ H Q,t' σ H Q→t σ H Q):PW X e t':=fun w pins s σ H Q I q=>h w pins s σ H Q I (m _ _ _ q)
theorem zlk {X:Cx}{e:List Expr}{t t':TA} (h:PA X e t) (m:∀σ H Q,t' σ H Q→t σ H Q):PA X e t':=fun pos pins s σ H Q I q=>h pos pins s σ H Q I (m _ _ _ q)
theorem zea {X:Cx}{e:Stmt}{t t':TS} (h:PS X e t) (m:∀σ H Q,t' Q σ H→t Q σ H):PS X e t':=fun pins s σ H Q I q=>h pins s σ H Q I (m _ _ _ q)
theorem zqw {X:Cx}{e:List Stmt}{t t':TS} (h:PSs X e t) (m:∀σ H Q,t' Q σ H→t Q σ H):PSs X e t':=fun pins s σ H Q I q=>h pins s σ H Q I (m _ _ _ q)
end F
namespace F
open PySem L2

def eV (i:Nat):E:=fun ev S=>match ev[i]? with
 | some (some d)=>some (d,S)
 | _=>none
def eK (d:D):E:=fun _ S=>some (d,S)
def e1 (op:D→Option D) (f:E):E:=fun ev S=>(f ev S).bind fun p=>(op p.1).map fun d=>(d,p.2)
def e2 (op:D→D→Option D) (f g:E):E:=fun ev S=>(f ev S).bind fun p=>(g ev p.2).bind fun q=>(op p.1 q.1).map fun d=>(d,q.2)
def e2s (op:Sto→D→D→Option D) (f g:E):E:=fun ev S=>(f ev S).bind fun p=>(g ev p.2).bind fun q=>(op q.2 p.1 q.1).map fun d=>(d,q.2)
def aN:As:=fun _ S=>some ([],S)
def aC (f:E) (g:As):As:=fun ev S=>(f ev S).bind fun p=>(g ev p.2).bind fun q=>some (p.1::q.1,q.2)
def eA (op:Sto→List D→Option D) (g:As):E:=fun ev S=>(g ev S).bind fun q=>(op q.2 q.1).map fun d=>(d,q.2)
def zak (g:G) (a:As):E:=fun ev S=>(a ev S).bind fun q=>g q.1 q.2
def ziw (c:Str) (S:Sto):D→Option (Nat×List (Str×D))
 | .obj i=>match S[i]? with
   | some (.ins c' fs)=>if c'=c then some (i,fs) else none
   | _=>none
 | _=>none
def zdo (c m:Str) (g:G) (f:E) (a:As):E:=fun ev S=>(f ev S).bind fun p=>(ziw c p.2 p.1).bind fun r=>if r.2.lookup m=none then (a ev p.2).bind fun q=>g (p.1::q.1) q.2 else none
def eMake (c:Str) (g:G) (a:As):E:=fun ev S=>(a ev S).bind fun q=>(g (.obj q.2.length::q.1) (q.2++[.ins c []])).bind fun r=>match r.1 with
 | .non=>some (.obj q.2.length,r.2)
 | _=>none
def eFld (c n:Str) (f:E):E:=fun ev S=>(f ev S).bind fun p=>(ziw c p.2 p.1).bind fun r=>(r.2.lookup n).map fun d=>(d,p.2)
def eNewL (g:As):E:=fun ev S=>(g ev S).bind fun q=>if q.1.length≤sizeLine then some (.obj q.2.length,q.2++[.lst q.1]) else none
def eTup (g:As):E:=eA (fun _ ds=>if ds.length≤sizeLine then some (.tup ds) else none) g
def eLst (g:As):E:=eA (fun _ ds=>if ds.length≤sizeLine then some (.lst ds) else none) g
def bE (f:E):B:=fun ev S=>(f ev S).bind fun p=>match p.1 with
 | .bl b=>some (b,p.2)
 | _=>none
def bNot (f:B):B:=fun ev S=>(f ev S).map fun p=>(!p.1,p.2)
def bAnd (f g:B):B:=fun ev S=>(f ev S).bind fun p=>if p.1=true then g ev p.2 else some (false,p.2)
def bOr (f g:B):B:=fun ev S=>(f ev S).bind fun p=>if p.1=true then some (true,p.2) else g ev p.2
def eNot (f:E):E:=e1 (fun d=>match d with | .bl b=>some (.bl !b) | _=>none) f
def eAnd (f g:E):E:=fun ev S=>(f ev S).bind fun p=>match p.1 with
 | .bl true=>g ev p.2
 | .bl false=>some (.bl false,p.2)
 | _=>none
def sNil:C:=fun ev S=>some (.nx ev,S)
def sSeq (a b:C):C:=fun ev S=>(a ev S).bind fun p=>match p.1 with
 | .nx e=>b e p.2
 | o=>some (o,p.2)
def sRet (f:E):C:=fun ev S=>(f ev S).map fun p=>(.rt p.1,p.2)
def sRetN:C:=fun _ S=>some (.rt .non,S)
def zjr (f:E):C:=fun ev S=>(f ev S).map fun p=>(.nx ev,p.2)
def sSet (i:Nat) (f:E):C:=fun ev S=>(f ev S).map fun p=>(.nx (ev.set i (some p.1)),p.2)
def sIf (c:B) (a b:C):C:=fun ev S=>(c ev S).bind fun p=>if p.1=true then a ev p.2 else b ev p.2
def znd:C:=fun _ _=>none
def putD (n:Str) (d:D):List (Str×D)→List (Str×D)
 | []=>[(n,d)]
 | (g,x)::r=>if g=n then (g,d)::r else (g,x)::putD n d r
def zst (c n:Str) (o v:E):C:=fun ev S=>(v ev S).bind fun p=>(o ev p.2).bind fun q=>(ziw c q.2 q.1).bind fun r=>if r.2.length < 1000 then some (.nx ev,q.2.set r.1 (.ins c (putD n p.1 r.2))) else none
def sItem (o i v:E):C:=fun ev S=>(v ev S).bind fun p=>(o ev p.2).bind fun q=>(i ev q.2).bind fun r=>match q.1,r.1 with
 | .obj a,.int k=>(match r.2[a]? with
   | some (.lst ds)=>(ixN ds.length k).map fun j=>(.nx ev,r.2.set a (.lst (ds.set j p.1)))
   | _=>none)
 | _,_=>none
def zgy (o v:E):C:=fun ev S=>(o ev S).bind fun q=>match q.1 with
 | .obj a=>(match q.2[a]? with
   | some (.lst _)=>(v ev q.2).bind fun p=>(match p.2[a]? with
     | some (.lst ds)=>if ds.length < sizeLine then some (.nx ev,p.2.set a (.lst (ds++[p.1]))) else none
     | _=>none)
   | _=>none)
 | _=>none
def zfz (i:Nat) (body:C):List D→Ev→Sto→Option (Out×Sto)
 | [],ev,S=>some (.nx ev,S)
 | d::ds,ev,S=>(body (ev.set i (some d)) S).bind fun p=>match p.1 with
   | .nx e=>zfz i body ds e p.2
   | .ct e=>zfz i body ds e p.2
   | .bk e=>some (.nx e,p.2)
   | .rt x=>some (.rt x,p.2)
def sForL (i:Nat) (f:E) (body:C):C:=fun ev S=>(f ev S).bind fun p=>match p.1 with
 | .lst ds=>zfz i body ds ev p.2
 | _=>none
def zbr (lo:Int) (n:Nat):List D:=(List.range n).map fun k:Nat=>D.int (lo + (k:Int))
def zva (i:Nat) (f:E) (body:C):C:=fun ev S=>(f ev S).bind fun p=>match p.1 with
 | .int j=>if -(2 ^ 62)≤j∧j < 2 ^ 62 then zfz i body (zbr 0 j.toNat) ev p.2 else none
 | _=>none
def zaz (N n:Nat) (c:C):G:=fun ds S=>if ds.length=n then (match c (ds.map some++List.replicate (N - ds.length) none) S with
 | some (.nx _,S1)=>some (.non,S1)
 | some (.rt d,S1)=>some (d,S1)
 | _=>none) else none

theorem zaq {α β:Type}{o:Option α}{f:α→Option β}{b:β} (h:o.bind f=some b):∃a,o=some a∧f a=some b:=by
 cases o with
 | none=>cases h
 | some a=>exact ⟨a,rfl,h⟩
theorem mapS {α β:Type}{o:Option α}{f:α→β}{b:β} (h:o.map f=some b):∃a,o=some a∧f a=b:=by
 cases o with
 | none=>cases h
 | some a=>exact ⟨a,rfl,Option.some.inj h⟩
section
variable {X:Cx}
def Snd2 (K:PySem.W.Frag) (mg:Str→Option Value) (R:R2) (op:Sto→D→D→Option D):Prop :=
 ∀(ρ:List Addr) (H:Hp) (S:Sto) (x y:V) (dx dy d:D) (Q:VK),StOk K mg ρ H S→Rep K mg ρ H dx x→Rep K mg ρ H dy y→op S dx dy=some d →
   (∀v H',Ext ρ H ρ H'→StOk K mg ρ H' S→Rep K mg ρ H' d v→Q v H')→R x y H Q
def SndA (K:PySem.W.Frag) (mg:Str→Option Value) (R:List V→Hp→VK→Prop) (op:Sto→List D→Option D):Prop :=
 ∀(ρ:List Addr) (H:Hp) (S:Sto) (xs:List V) (ds:List D) (d:D) (Q:VK),StOk K mg ρ H S→RepL K mg ρ H ds xs→op S ds=some d →
   (∀v H',Ext ρ H ρ H'→StOk K mg ρ H' S→Rep K mg ρ H' d v→Q v H')→R xs H Q
section
variable {K:PySem.W.Frag}{mg:Str→Option Value}{R R':R2}{op op':Sto→D→D→Option D}
theorem t2 (hs:Snd2 K mg R op) {f g:E}{σ:St}{H:Hp}{Q:VK} (h:tE K mg (e2s op f g) σ H Q):tOp R (tE K mg f) (tE K mg g) σ H Q:=by
 obtain ⟨ρ,ev,S,d,S',hE,hS,hf,k⟩:=h
 obtain ⟨⟨x,S1⟩,q1,hf⟩:=zaq hf
 obtain ⟨⟨y,S2⟩,q2,hf⟩:=zaq hf
 obtain ⟨z,q3,hf⟩:=mapS hf
 cases hf
 refine ⟨ρ,ev,S,x,S1,hE,hS,q1,fun v ρ1 H1 E1 hS1 r1=>⟨ρ1,ev,S1,y,S2,hE.mono E1,hS1,q2,fun u ρ2 H2 E2 hS2 r2=>?_⟩⟩
 exact hs ρ2 H2 _ v u x y _ Q hS2 (r1.mono E2) r2 q3 fun w H' E3 hS3 r3=>k w ρ2 H' ((E1.trans E2).trans E3) hS3 r3
end
theorem zkn {o:Operator}{R:R2}{op:Sto→D→D→Option D}{a b:Expr}{f g:E}{pos:Pos} (ho:OpR X (binaryOp o) R) (hs:Snd2 X.K X.mg R op) (ha:FE X a f) (hb:FE X b g):FE X (.BinOp a o b pos) (e2s op f g) :=
 zbw (pe_op ho ha hb) fun _ _ _ h=>t2 hs h
theorem znw {o:CmpOp}{R:R2}{op:Sto→D→D→Option D}{a b:Expr}{f g:E}{pos:Pos} (ho:OpR X (compareOp o) R) (hs:Snd2 X.K X.mg R op) (ha:FE X a f) (hb:FE X b g) (hm:behindInMarks o b=false):FE X (.Compare a [o] [b] pos) (e2s op f g) :=
 zbw (pe_cmpR ho ha hb hm) fun _ _ _ h=>t2 hs h
theorem tb_of {K mg}{f:E}{t:TE}{σ:St}{H:Hp}{Q:Bool→Hp→Prop} (m:∀Q,tE K mg f σ H Q→t σ H Q) (h:tB K mg (bE f) σ H Q):tTest t σ H Q:=by
 obtain ⟨ρ,ev,S,b,S',hE,hS,hf,k⟩:=h
 obtain ⟨⟨x,S1⟩,q1,hf⟩:=zaq hf
 cases x with
 | bl c =>
   cases hf
   refine m _ ⟨ρ,ev,S,_,_,hE,hS,q1,fun v ρ1 H1 E1 hS1 r1=>?_⟩
   exact ⟨b,r1,k ρ1 H1 E1 hS1⟩
 | _=>cases hf
theorem zhh {o:CmpOp}{R:R2}{op:Sto→D→D→Option D}{a b:Expr}{f g:E}{pos:Pos} (ho:OpR X (compareOp o) R) (hs:Snd2 X.K X.mg R op) (ha:FE X a f) (hb:FE X b g) (hm:behindInMarks o b=false):FB X (.Compare a [o] [b] pos) (bE (e2s op f g)) :=
 zic (pt_cmpR ho ha hb hm) fun _ _ _ h=>tb_of (fun _ h=>t2 hs h) h

theorem fe_v (i:Nat) {x:Str}{pos:Pos} (hN:X.N[i]? = some x:=by rfl) (hv:Vis X.env.scope x:=by first | exact Or.inl rfl | exact Or.inr (Or.inl rfl) | exact Or.inr (Or.inr rfl)) (hd:(x == ("__debug__":Str))=false:=by decide)
   (hcd:(x == ("__classdict__":Str))=false:=by decide):FE X (.Name x pos) (eV i) :=
 zbw (pe_var hN hv hd hcd) fun σ H Q h=>by
   obtain ⟨ρ,ev,S,d,S',hE,hS,hf,k⟩:=h
   unfold eV at hf
   split at hf
   · rename_i x e
     cases hf
     obtain ⟨v,e1,r⟩:=hE.at_ i _ e
     exact ⟨v,e1,k v ρ H (Ext.refl _ _) hS r⟩
   · cases hf
theorem zfp {e:Expr}{v:V}{d:D} (h:PE X e (L2.tC v)) (r:∀ρ H,Rep X.K X.mg ρ H d v):FE X e (eK d) :=
 zbw h fun σ H Q h=>by
   obtain ⟨ρ,ev,S,d,S',hE,hS,hf,k⟩:=h
   cases hf
   exact k v ρ H (Ext.refl _ _) hS (r _ _)
theorem zai {i:Int}{j pos}:FE X (.Constant (.int i) j pos) (eK (.int i)):=zfp pe_int fun _ _=>rfl
theorem zmh {b:Bool}{j pos}:FE X (.Constant (.bool b) j pos) (eK (.bl b)):=zfp pe_bl fun _ _=>rfl
theorem zcl {j pos}:FE X (.Constant .none j pos) (eK .non):=zfp pe_non fun _ _=>rfl
theorem fe_str {x:Str}{j pos}:FE X (.Constant (.str x) j pos) (eK (.str x)):=zfp pe_str fun _ _=>rfl
theorem zav {x:Str}{n:Int}{pos:Pos} (hm:∃t,X.mg x=some (.int n t)) (hg:Gl X x:=by rfl) (hd:(x == ("__debug__":Str))=false:=by decide):FE X (.Name x pos) (eK (.int n)):=by
 obtain ⟨t,hm⟩:=hm
 exact zfp (pe_glob hg hm (v:=.int n) ⟨t,rfl⟩ hd) fun _ _=>rfl
theorem zad:FA X [] aN:=zlk zvo fun σ H Q h=>by
 obtain ⟨ρ,ev,S,d,S',hE,hS,hf,k⟩:=h
 cases hf
 exact k [] ρ H (Ext.refl _ _) hS RepL.nil
theorem zaa {e:Expr}{es:List Expr}{f:E}{g:As} (ha:FE X e f) (hr:FA X es g) (hs:starEach (e::es) X.env=(false,eval e X.env)::starEach es X.env:=by exact zay rfl):FA X (e::es) (aC f g) :=
 zlk (zll ha hr hs) fun σ H Q h=>by
   obtain ⟨ρ,ev,S,d,S',hE,hS,hf,k⟩:=h
   obtain ⟨⟨x,S1⟩,q1,hf⟩:=zaq hf
   obtain ⟨⟨y,S2⟩,q2,hf⟩:=zaq hf
   cases hf
   refine ⟨ρ,ev,S,x,S1,hE,hS,q1,fun v ρ1 H1 E1 hS1 r1=>⟨ρ1,ev,S1,y,_,hE.mono E1,hS1,q2,fun vs ρ2 H2 E2 hS2 r2=>?_⟩⟩
   exact k (v::vs) ρ2 H2 (E1.trans E2) hS2 (RepL.cons (r1.mono E2) r2)
theorem tA {K mg}{R:List V→Hp→VK→Prop}{op:Sto→List D→Option D} (hs:SndA K mg R op) {g:As}{σ:St}{H:Hp}{Q:VK} (h:tE K mg (eA op g) σ H Q):tAs K mg g σ H fun vs H1=>R vs H1 Q:=by
 obtain ⟨ρ,ev,S,d,S',hE,hS,hf,k⟩:=h
 obtain ⟨⟨x,S1⟩,q1,hf⟩:=zaq hf
 obtain ⟨z,q3,hf⟩:=mapS hf
 cases hf
 exact ⟨ρ,ev,S,x,_,hE,hS,q1,fun vs ρ1 H1 E1 hS1 r1=>hs ρ1 H1 _ vs x _ Q hS1 r1 q3 fun w H' E3 hS3 r3=>k w ρ1 H' (E1.trans E3) hS3 r3⟩
theorem zdc {es:List Expr}{g:As}{x1 pos} (h:FA X es g):FE X (.Tuple es x1 pos) (eTup g) :=
 zbw (pe_tup h) fun σ H Q h=>tA (K:=X.K) (mg:=X.mg) (R:=fun xs H1 Q=>xs.length≤sizeLine∧∀p,H1 p=none→Q (.ref p) (upd H1 p (.tup xs))) (fun ρ H S xs ds d Q hS r e k=>by
   split at e
   · rename_i hl
     cases e
     exact ⟨by rw [← r.length];exact hl,fun p hp=>k _ _ (zbv hS _ hp) (hS.new _ hp) (Rep.tup (s:=hS) hp r)⟩
   · cases e) h
theorem fe_lst {es:List Expr}{g:As}{pos} (h:FA X es g):FE X (.List es pos) (eLst g) :=
 zbw (pe_lst h) fun σ H Q h=>tA (K:=X.K) (mg:=X.mg) (R:=fun xs H1 Q=>xs.length≤sizeLine∧∀p,H1 p=none→Q (.ref p) (upd H1 p (.lst xs))) (fun ρ H S xs ds d Q hS r e k=>by
   split at e
   · rename_i hl
     cases e
     exact ⟨by rw [← r.length];exact hl,fun p hp=>k _ _ (zbv hS _ hp) (hS.new _ hp) (Rep.lst (s:=hS) hp r)⟩
   · cases e) h
theorem zwz {es:List Expr}{g:As}{pos} (h:FA X es g):FE X (.List es pos) (eNewL g) :=
 zbw (pe_lst h) fun σ H Q h=>by
   obtain ⟨ρ,ev,S,d,S',hE,hS,hf,k⟩:=h
   obtain ⟨⟨x,S1⟩,q1,hf⟩:=zaq hf
   dsimp only at hf
   split at hf
   · rename_i hl
     cases hf
     refine ⟨ρ,ev,S,x,S1,hE,hS,q1,fun vs ρ1 H1 E1 hS1 r1=>⟨by rw [← r1.length];exact hl,fun p hp=>?_⟩⟩
     refine k _ _ _ (E1.trans (zmi hS1 _ hp)) (hS1.add hp ⟨vs,zbj,r1.mono (zmi hS1 _ hp)⟩) ?_
     unfold Rep
     refine ⟨p,rfl,?_⟩
     rw [List.getElem?_append_right (by rw [hS1.len] <;> exact Nat.le_refl _),hS1.len]
     simp
   · cases hf
theorem zrs {id:String}{R:List V→Hp→VK→Prop}{op:Sto→List D→Option D}{x:Str}{p pos:Pos}{e:Expr}{es:List Expr}{g:As} (hc:CallR X (.builtin id) R) (hs:SndA X.K X.mg R op) (hm:X.mg x=none) (hv:bootBuiltins x=some (.builtin id)) (ha:FA X (e::es) g)
   (hg:Gl X x:=by rfl) (hn:x≠"__name__":=by decide) (hdb:(x == ("__debug__":Str))=false:=by decide)
   (he:starEach (e::es) X.env=(false,eval e X.env)::starEach es X.env:=by exact zay rfl) (hpl:(backTo pos (starEach es X.env)).any (·.1)=false:=by exact zca rfl):FE X (.Call (.Name x p) (e::es) [] pos) (eA op g) :=
 zbw (pe_callB hc hg hm hv ha hn hdb he hpl) fun σ H Q h=>tA hs h
end
end F
namespace F
open PySem L2

structure Cal (P:Program) (w:World) (K:PySem.W.Frag) (mg:Str→Option Value) (base:Heap) (k:Nat) (x:Str) (g:G):Prop where
 ex:∃(f:Addr) (fd:FuncData) (ps:List Str) (ds:List Value) (dvs:List V) (dds:List D) (gg:G),FnOk P w K mg base CX0 k f fd ps (spG K mg gg)∧mg x=some (.ref f)∧PySem.W.keepIn K (.ref f)=true ∧
   Binds K fd ps ds∧Vals dvs ds∧(∀ρ H,RepL K mg ρ H dds dvs)∧∀args S r,g args S=some r→gg (args++dds) S=some r
theorem Cal.mono {P w K mg base j k x g} (c:Cal P w K mg base j x g) (h:j≤k):Cal P w K mg base k x g:=by
 obtain ⟨f,fd,ps,ds,dvs,dds,gg,F,r⟩:=c.ex
 exact ⟨f,fd,ps,ds,dvs,dds,gg,F.mono h,r⟩
structure Mth (P:Program) (w:World) (K:PySem.W.Frag) (mg:Str→Option Value) (base:Heap) (k:Nat) (c m:Str) (g:G):Prop where
 ex:∃(C f:Addr) (fd:FuncData) (ps:List Str) (ds:List Value) (dvs:List V) (dds:List D) (gg:G),FnOk P w K mg base CX0 k f fd ps (spG K mg gg)∧mg c=some (.ref C)∧Cls K C∧Meth K C m f ∧
   Binds K fd ps ds∧Vals dvs ds∧(∀ρ H,RepL K mg ρ H dds dvs)∧∀args S r,g args S=some r→gg (args++dds) S=some r
structure Mak (P:Program) (w:World) (K:PySem.W.Frag) (mg:Str→Option Value) (base:Heap) (k:Nat) (c:Str) (g:G):Prop where
 ex:∃(C f:Addr) (fd:FuncData) (ps:List Str) (ds:List Value) (dvs:List V) (dds:List D) (gg:G),FnOk P w K mg base CX0 k f fd ps (spG K mg gg)∧mg c=some (.ref C)∧Mk K C f ∧
   Binds K fd ps ds∧Vals dvs ds∧(∀ρ H,RepL K mg ρ H dds dvs)∧∀args S r,g args S=some r→gg (args++dds) S=some r
def Fld (K:PySem.W.Frag) (mg:Str→Option Value) (c n:Str):Prop:=∀C,mg c=some (.ref C)→Cls K C∧NoAttr K C n

section
variable {X:Cx}{k:Nat}{x c m n:Str}{g:G}{e o:Expr}{es:List Expr}{a:As}{f:E}{p pos apos:Pos}
theorem zqo {K mg}{gg:G}{dds:List D}{dvs:List V} (hdd:∀ρ H,RepL K mg ρ H dds dvs) (hg:∀args S r,g args S=some r→gg (args++dds) S=some r) {σ:St}{H:Hp}{Q:VK} (h:tE K mg (zak g a) σ H Q) :
   tCall (spG K mg gg) dvs E0 (tAs K mg a) σ H Q:=by
 obtain ⟨ρ,ev,S,d,S',hE,hS,hf,k⟩:=h
 obtain ⟨⟨ds,S1⟩,q1,hf⟩:=zaq hf
 exact ⟨ρ,ev,S,ds,S1,hE,hS,q1,fun vs ρ1 H1 E1 hS1 r1=>⟨ρ1,ds++dds,S1,d,S',r1.append (hdd ρ1 H1),hS1,hg _ _ _ hf,fun v ρ' H' E' hS' r'=>k v ρ' H' (E1.trans E') hS' r'⟩⟩
theorem zae (cal:Cal X.prog X.w X.K X.mg X.base k x g) (hr:Room k X.A) (ha:FA X (e::es) a) (hg:Gl X x:=by rfl) (hdb:(x == ("__debug__":Str))=false:=by decide)
   (he:starEach (e::es) X.env=(false,eval e X.env)::starEach es X.env:=by exact zay rfl) (hpl:(backTo pos (starEach es X.env)).any (·.1)=false:=by exact zca rfl) :
   FE X (.Call (.Name x p) (e::es) [] pos) (zak g a):=by
 obtain ⟨f,fd,ps,ds,dvs,dds,gg,F,hm,hk,hb,hd,hdd,hgg⟩:=cal.ex
 exact zbw (pe_call F hr hg hm hk hb hd zsy ha hdb he hpl) fun σ H Q h=>zqo hdd hgg h
theorem zmc {c:Str}{S:Sto}{d:D}{r:Nat×List (Str×D)} (h:ziw c S d=some r):d=.obj r.1∧S[r.1]? = some (.ins c r.2):=by
 unfold ziw at h
 split at h
 · split at h
   · rename_i i _ c' fs e
     split at h
     · rename_i hc
       cases h
       subst hc
       exact ⟨rfl,e⟩
     · cases h
   · cases h
 · cases h
theorem zpa {K mg ρ H S} (hS:StOk K mg ρ H S) {c:Str}{i:Nat}{fs:List (Str×D)}{v:V} (h:S[i]? = some (.ins c fs)) (r:Rep K mg ρ H (.obj i) v) :
   ∃b C dx vs,v=.ref b∧ρ[i]? = some b∧mg c=some (.ref C)∧H b=some (.ins C dx vs)∧RepF K mg ρ H fs vs:=by
 unfold Rep at r
 obtain ⟨b,rfl,e⟩:=r
 obtain ⟨C,dx,vs,h1,h2,h3⟩:=hS.ob i _ b h e
 exact ⟨b,C,dx,vs,rfl,e,h1,h2,h3⟩
theorem zpg {fs:List (Str×D)}{vs:List (Str×V)}{m:Str} (h:vs.map (·.1)=fs.map (·.1)) (e:fs.lookup m=none):vs.lookup m=none:=by
 induction fs generalizing vs with
 | nil =>
   cases vs with
   | nil=>rfl
   | cons _ _=>cases h
 | cons q fs ih =>
   cases vs with
   | nil=>cases h
   | cons q' vs =>
     obtain ⟨a,b⟩:=q
     obtain ⟨a',b'⟩:=q'
     simp only [List.map_cons,List.cons.injEq] at h
     obtain ⟨h1,h2⟩:=h
     subst h1
     simp only [List.lookup] at e ⊢
     split at e
     · cases e
     · exact ih h2 e
theorem zpf {K mg ρ H}{fs:List (Str×D)}{vs:List (Str×V)}{m:Str}{d:D} (h:RepF K mg ρ H fs vs) (e:fs.lookup m=some d):∃v,vs.lookup m=some v∧Rep K mg ρ H d v:=by
 obtain ⟨h,r⟩:=h
 induction fs generalizing vs with
 | nil=>cases e
 | cons q fs ih =>
   cases vs with
   | nil=>cases h
   | cons q' vs =>
     obtain ⟨a,b⟩:=q
     obtain ⟨a',b'⟩:=q'
     simp only [List.map_cons,List.cons.injEq] at h
     obtain ⟨h1,h2⟩:=h
     subst h1
     rw [List.map_cons,List.map_cons] at r
     unfold RepL at r
     obtain ⟨u,t,e1,r1,r2⟩:=r
     cases e1
     simp only [List.lookup] at e ⊢
     split at e
     · cases e;exact ⟨_,rfl,r1⟩
     · exact ih e h2 r2
theorem zbz (mt:Mth X.prog X.w X.K X.mg X.base k c m g) (hr:Room k X.A) (ho:FE X o f) (ha:FA X (e::es) a) {pl:Sem Bool}
   (hst:starEach (e::es) X.env=(false,eval e X.env)::starEach es X.env:=by exact zay rfl) (hpl:(backTo pos (starEach es X.env)).any (·.1)=false:=by exact zca rfl)
   (ht:eval (.Call (.Attribute o m apos) (e::es) [] pos) X.env=(do
     let ov ← eval o X.env
     standAt apos.atName
     let (f,first) ← holding [ov] (getMethod ov m pl)
     callWith pos f first (backTo pos (starEach (e::es) X.env)) (backToKw pos (keywordEach [] X.env))):=by rfl) :
   FE X (.Call (.Attribute o m apos) (e::es) [] pos) (zdo c m g f a):=by
 obtain ⟨C,fa,fd,ps,ds,dvs,dds,gg,F,hm,hc,hme,hb,hd,hdd,hgg⟩:=mt.ex
 refine zbw (pe_meth ho hc hme F hr hb hd zsy ha hst hpl ht) fun σ H Q h=>?_
 obtain ⟨ρ,ev,S,d,S',hE,hS,hf,k⟩:=h
 obtain ⟨⟨y,S1⟩,q1,hf⟩:=zaq hf
 obtain ⟨⟨i,fs⟩,q2,hf⟩:=zaq hf
 dsimp only at hf q2
 split at hf
 · rename_i hl
   obtain ⟨⟨ys,S2⟩,q3,hf⟩:=zaq hf
   obtain ⟨rfl,hi⟩:=zmc q2
   refine ⟨ρ,ev,S,_,S1,hE,hS,q1,fun v ρ1 H1 E1 hS1 r1=>?_⟩
   obtain ⟨b,C',dx,vs,rfl,hb1,hm',hb2,hb3⟩:=zpa hS1 hi r1
   have ec:C'=C:=by rw [hm] at hm';cases hm';rfl
   subst ec
   refine ⟨b,dx,vs,rfl,hb2,zpg hb3.1 hl,ρ1,ev,S1,ys,S2,hE.mono E1,hS1,q3,fun us ρ2 H2 E2 hS2 r2=>?_⟩
   exact ⟨ρ2,_,S2,d,S',(RepL.cons (r1.mono E2) r2).append (hdd ρ2 H2),hS2,hgg _ _ _ hf,fun v ρ' H' E' hS' r'=>k v ρ' H' ((E1.trans E2).trans E') hS' r'⟩
 · cases hf
theorem tmake_of {K mg}{gg:G}{C:Addr}{dds:List D}{dvs:List V} (hm:mg c=some (.ref C)) (hdd:∀ρ H,RepL K mg ρ H dds dvs) (hg:∀args S r,g args S=some r→gg (args++dds) S=some r) {σ:St}{H:Hp}{Q:VK} (h:tE K mg (eMake c g a) σ H Q) :
   tMake C (spG K mg gg) dvs E0 (tAs K mg a) σ H Q:=by
 obtain ⟨ρ,ev,S,d,S',hE,hS,hf,k⟩:=h
 obtain ⟨⟨ds,S1⟩,q1,hf⟩:=zaq hf
 obtain ⟨⟨y,S2⟩,q2,hf⟩:=zaq hf
 dsimp only at hf
 cases y with
 | non =>
   cases hf
   refine ⟨ρ,ev,S,ds,S1,hE,hS,q1,fun vs ρ1 H1 E1 hS1 r1=>fun x dx nx ndx ne=>?_⟩
   have s0:=hS1.new (.own x) ndx
   have nx':upd H1 dx (.own x) x=none:=by rw [zba (Ne.symm ne)];exact nx
   have e0:=zbv hS1 (.own x) ndx
   have e1:=zmi s0 (p:=x) (.ins C dx []) nx'
   have s1:StOk K mg (ρ1++[x]) (upd (upd H1 dx (.own x)) x (.ins C dx [])) (S1++[.ins c []]):=s0.add nx' ⟨C,dx,[],hm,zbj,rfl,RepL.nil⟩
   have ro:Rep K mg (ρ1++[x]) (upd (upd H1 dx (.own x)) x (.ins C dx [])) (.obj S1.length) (.ref x):=by
     unfold Rep
     refine ⟨x,rfl,?_⟩
     rw [List.getElem?_append_right (by rw [hS1.len] <;> exact Nat.le_refl _),hS1.len]
     simp
   refine ⟨ρ1++[x],_,_,.non,_,RepL.cons ro ((r1.mono (e0.trans e1)).append (hdd _ _)),s1,hg _ _ _ q2,fun v ρ' H' E' hS' r'=>⟨r',?_⟩⟩
   exact k _ ρ' H' (E1.trans ((e0.trans e1).trans E')) hS' (ro.mono E')
 | _=>cases hf
theorem fe_make0 (mk:Mak X.prog X.w X.K X.mg X.base k c g) (hr:Room (k + 1) X.A) (hg:Gl X c:=by rfl) (hdb:(c == ("__debug__":Str))=false:=by decide) :
   FE X (.Call (.Name c p) [] [] pos) (eMake c g aN):=by
 obtain ⟨C,f,fd,ps,ds,dvs,dds,gg,F,hm,M,hb,hd,hdd,hgg⟩:=mk.ex
 refine zbw (pe_make0 M F hr hg hm hb hd zsy hdb) fun σ H Q h=>?_
 have h':=tmake_of (C:=C) (gg:=gg) hm hdd hgg h
 obtain ⟨ρ,ev,S,d,S',hE,hS,hf,k⟩:=h'
 cases hf
 exact k [] ρ H (Ext.refl _ _) hS RepL.nil
theorem fe_fld (hc:Fld X.K X.mg c n) (ho:FE X o f) (hb:attributeBase o n X.env (eval o X.env)=eval o X.env:=by rfl):FE X (.Attribute o n pos) (eFld c n f) :=
 zbw (pe_fld ho hb) fun σ H Q h=>by
   obtain ⟨ρ,ev,S,d,S',hE,hS,hf,k⟩:=h
   obtain ⟨⟨y,S1⟩,q1,hf⟩:=zaq hf
   obtain ⟨⟨i,fs⟩,q2,hf⟩:=zaq hf
   obtain ⟨d',q3,hf⟩:=mapS hf
   cases hf
   obtain ⟨rfl,hi⟩:=zmc q2
   refine ⟨ρ,ev,S,_,_,hE,hS,q1,fun v ρ1 H1 E1 hS1 r1=>?_⟩
   obtain ⟨b,C,dx,vs,rfl,hb1,hm',hb2,hb3⟩:=zpa hS1 hi r1
   obtain ⟨v,e1,r2⟩:=zpf hb3 q3
   exact ⟨b,C,dx,vs,v,rfl,hb2,(hc C hm').1,(hc C hm').2,e1,k v ρ1 H1 E1 hS1 r2⟩
def eCallV (ft:Str→Option G) (f:E) (a:As):E:=fun ev S=>(f ev S).bind fun p=>match p.1 with
 | .fn x=>(ft x).bind fun g=>(a ev p.2).bind fun q=>g q.1 q.2
 | _=>none
theorem fe_callV {fe:Expr}{ft:Str→Option G} (hT:∀x g,ft x=some g→Cal X.prog X.w X.K X.mg X.base k x g) (hr:Room k X.A) (hf:FE X fe f) (ha:FA X (e::es) a)
   (ht:eval (.Call fe (e::es) [] pos) X.env=(eval fe X.env >>= fun v=>callWith pos v [] (backTo pos (starEach (e::es) X.env)) (backToKw pos (keywordEach [] X.env))):=by rfl)
   (he:starEach (e::es) X.env=(false,eval e X.env)::starEach es X.env:=by exact zay rfl) (hpl:(backTo pos (starEach es X.env)).any (·.1)=false:=by exact zca rfl) :
   FE X (.Call fe (e::es) [] pos) (eCallV ft f a):=by
 intro pins s σ H Q I h
 rw [ht]
 obtain ⟨ρ,ev,S,d,S',hE,hS,hf',kk⟩:=h
 obtain ⟨⟨y,S1⟩,q1,hf'⟩:=zaq hf'
 cases y with
 | fn x =>
   dsimp only at hf'
   obtain ⟨g,hx,hf'⟩:=zaq hf'
   obtain ⟨f0,fd,ps,ds,dvs,dds,gg,F,hm,hk,hb,hd,hdd,hgg⟩:=(hT x g hx).ex
   refine wpAny_bind (thn (hf pins s σ H (fun v H1=>v=.ref f0∧tCall (spG X.K X.mg gg) dvs E0 (tAs X.K X.mg a) σ H1 Q) I ⟨ρ,ev,S,_,S1,hE,hS,q1,fun v ρ1 H1 E1 hS1 r1=>⟨?_,?_⟩⟩) fun u s1 ⟨v,H1,I1,rv,ev1,q⟩=>?_)
   · unfold Rep at r1
     obtain ⟨b,rfl,e1⟩:=r1
     rw [hm] at e1;cases e1;rfl
   · exact zqo (g:=g) hdd hgg ⟨ρ1,ev,S1,d,S',hE.mono E1,hS1,hf',fun v ρ' H' E' hS' r'=>kk v ρ' H' (E1.trans E') hS' r'⟩
   · subst ev1
     obtain rfl:u=Value.ref f0:=rv
     refine PySem.W.callWith_K (h₀:=X.base) I.ok.mod.kin hk (thn (ha pos pins s1 σ H1 _ I1 q) fun us s2 ⟨vs,H2,I2,r,q2⟩=>⟨I2.kIn,?_⟩) he hpl
     exact zne F hr hb hd zsy I2 r q2
 | _=>cases hf'

theorem zfu (h:FE X e f) (he:∀whole,isTrue e X.env whole=(do let v ← whole;standAt e.pos;holding [v] (truthy v)):=by intro _;rfl):FB X e (bE f) :=
 zic (pt_val h he) fun σ H Q h=>by
   obtain ⟨ρ,ev,S,b,S',hE,hS,hf,k⟩:=h
   obtain ⟨⟨x,S1⟩,q1,hf⟩:=zaq hf
   cases x with
   | bl c =>
     cases hf
     exact ⟨ρ,ev,S,_,_,hE,hS,q1,fun v ρ1 H1 E1 hS1 r1=>⟨b,r1,k ρ1 H1 E1 hS1⟩⟩
   | _=>cases hf
variable {b:Expr}{rest:List Expr}{u v:B}
theorem ziz (h:FB X e u):FB X (.UnaryOp .Not e pos) (bNot u):=zic (pt_not h) fun σ H Q h=>by
 obtain ⟨ρ,ev,S,b,S',hE,hS,hf,k⟩:=h
 obtain ⟨⟨x,S1⟩,q1,hf⟩:=mapS hf
 cases hf
 exact ⟨ρ,ev,S,_,_,hE,hS,q1,fun ρ1 H1 E1 hS1=>k ρ1 H1 E1 hS1⟩
theorem fw_and1 (h:FB X e u):FW X (.BoolOp .And [e] pos) u:=pw_and1 h
theorem fw_or1 (h:FB X e u):FW X (.BoolOp .Or [e] pos) u:=pw_or1 h
theorem fw_and (h:FB X e u) (hb:FW X (.BoolOp .And (b::rest) pos) v):FW X (.BoolOp .And (e::b::rest) pos) (bAnd u v):=zvg (pw_and h hb) fun σ H Q h=>by
 obtain ⟨ρ,ev,S,b,S',hE,hS,hf,k⟩:=h
 obtain ⟨⟨x,S1⟩,q1,hf⟩:=zaq hf
 refine ⟨ρ,ev,S,x,S1,hE,hS,q1,fun ρ1 H1 E1 hS1=>?_⟩
 cases x with
 | true=>exact iteT ⟨ρ1,ev,S1,b,S',hE.mono E1,hS1,hf,fun ρ2 H2 E2 hS2=>k ρ2 H2 (E1.trans E2) hS2⟩
 | false=>cases hf;exact iteF (k ρ1 H1 E1 hS1)
theorem fw_or (h:FB X e u) (hb:FW X (.BoolOp .Or (b::rest) pos) v):FW X (.BoolOp .Or (e::b::rest) pos) (bOr u v):=zvg (pw_or h hb) fun σ H Q h=>by
 obtain ⟨ρ,ev,S,b,S',hE,hS,hf,k⟩:=h
 obtain ⟨⟨x,S1⟩,q1,hf⟩:=zaq hf
 refine ⟨ρ,ev,S,x,S1,hE,hS,q1,fun ρ1 H1 E1 hS1=>?_⟩
 cases x with
 | true=>cases hf;exact iteT (k ρ1 H1 E1 hS1)
 | false=>exact iteF ⟨ρ1,ev,S1,b,S',hE.mono E1,hS1,hf,fun ρ2 H2 E2 hS2=>k ρ2 H2 (E1.trans E2) hS2⟩
theorem fb_w (h:FW X e u):FB X e u:=h.pt
variable {g1 g2:E}
theorem fe_one {op} (h:FE X e g1):FE X (.BoolOp op [e] pos) g1:=pe_one h
theorem fe_and (h:FE X e g1) (hb:FE X (.BoolOp .And (b::rest) pos) g2):FE X (.BoolOp .And (e::b::rest) pos) (eAnd g1 g2):=zbw (pe_and h hb) fun σ H Q h=>by
 obtain ⟨ρ,ev,S,d,S',hE,hS,hf,k⟩:=h
 obtain ⟨⟨x,S1⟩,q1,hf⟩:=zaq hf
 refine ⟨ρ,ev,S,x,S1,hE,hS,q1,fun w ρ1 H1 E1 hS1 r1=>?_⟩
 cases x with
 | bl c =>
   refine ⟨c,r1,?_⟩
   cases c with
   | true=>exact iteT ⟨ρ1,ev,S1,d,S',hE.mono E1,hS1,hf,fun v ρ2 H2 E2 hS2 r2=>k v ρ2 H2 (E1.trans E2) hS2 r2⟩
   | false=>cases hf;exact iteF (k _ ρ1 H1 E1 hS1 rfl)
 | _=>cases hf
theorem fe_not (h:FE X e g1):FE X (.UnaryOp .Not e pos) (eNot g1):=zbw (pe_not h) fun σ H Q h=>by
 obtain ⟨ρ,ev,S,d,S',hE,hS,hf,k⟩:=h
 obtain ⟨⟨x,S1⟩,q1,hf⟩:=zaq hf
 obtain ⟨z,q2,hf⟩:=mapS hf
 cases hf
 refine ⟨ρ,ev,S,x,_,hE,hS,q1,fun w ρ1 H1 E1 hS1 r1=>?_⟩
 cases x with
 | bl c=>cases q2;exact ⟨c,r1,k _ ρ1 H1 E1 hS1 rfl⟩
 | _=>cases q2
end
end F
namespace F
open PySem L2
section
variable {X:Cx}{st:Stmt}{rest:List Stmt}{a b body:C}{e o:Expr}{f g h':E}{u:B}{pos pos':Pos}{x c n:Str}
theorem zap:FSs X [] sNil:=zqw pss_nil fun σ H D h=>by
 obtain ⟨ρ,ev,S,o,S',hE,hS,hf,k⟩:=h
 cases hf
 exact k σ ρ H (Ext.refl _ _) hS hE
theorem zac (h1:FS X st a) (h2:FSs X rest b):FSs X (st::rest) (sSeq a b):=zqw (pss_cons h1 h2) fun σ H D h=>by
 obtain ⟨ρ,ev,S,o,S',hE,hS,hf,k⟩:=h
 obtain ⟨⟨o1,S1⟩,q1,hf⟩:=zaq hf
 refine ⟨ρ,ev,S,o1,S1,hE,hS,q1,?_⟩
 cases o1 with
 | nx e=>exact fun σ' ρ' H' E' hS' hE'=>⟨ρ',e,S1,o,S',hE',hS',hf,k.ext E'⟩
 | rt d=>cases hf;exact k
 | bk e=>cases hf;exact k
 | ct e=>cases hf;exact k
theorem zah (h1:FS X st a):FSs X [st] a:=pss_one h1
theorem zal (h:FE X e f):FS X (.Return (some e) pos) (sRet f):=zea (ps_ret h) fun σ H D h=>by
 obtain ⟨ρ,ev,S,o,S',hE,hS,hf,k⟩:=h
 obtain ⟨⟨d,S1⟩,q1,hf⟩:=mapS hf
 cases hf
 exact ⟨ρ,ev,S,d,_,hE,hS,q1,k⟩
theorem fs_retN:FS X (.Return none pos) sRetN:=zea ps_retN fun σ H D h=>by
 obtain ⟨ρ,ev,S,o,S',hE,hS,hf,k⟩:=h
 cases hf
 exact k .non ρ H (Ext.refl _ _) hS rfl
theorem zhu:FS X st znd:=zea ps_never fun σ H D h=>by
 obtain ⟨ρ,ev,S,o,S',hE,hS,hf,k⟩:=h
 cases hf
theorem zga (h:FE X e f) (hs:swapsWith e none pos.line X.env=pure false:=by rfl):FS X (.Expr e pos) (zjr f):=zea (zvk h hs) fun σ H D h=>by
 obtain ⟨ρ,ev,S,o,S',hE,hS,hf,k⟩:=h
 obtain ⟨⟨d,S1⟩,q1,hf⟩:=mapS hf
 cases hf
 exact ⟨ρ,ev,S,d,_,hE,hS,q1,fun v ρ1 H1 E1 hS1 r1=>k σ ρ1 H1 E1 hS1 (hE.mono E1)⟩
theorem zas (i:Nat) (h:FE X e f) (hN:X.N.Nodup) (hi:X.N[i]? = some x:=by rfl) (hx:Loc X.env.scope x:=by first | exact Or.inl rfl | exact Or.inr rfl) (hs:swapsWith e (some (.Name x pos')) pos.line X.env=pure false:=by rfl)
   (hf:X.fn x=true∨X.env.scope.names.lookup x=some .local:=by first | exact .inl rfl | exact .inr rfl | assumption):FS X (.Assign [.Name x pos'] e pos) (sSet i f) :=
 zea (ps_set hN hi hx h hs hf) fun σ H D h=>by
   obtain ⟨ρ,ev,S,o,S',hE,hS,hf,k⟩:=h
   obtain ⟨⟨d,S1⟩,q1,hf⟩:=mapS hf
   cases hf
   exact ⟨ρ,ev,S,d,_,hE,hS,q1,fun v ρ1 H1 E1 hS1 r1=>k _ ρ1 H1 E1 hS1 ((hE.mono E1).set r1 i)⟩
theorem zbo (hc:FB X e u) {sa sb:List Stmt} (ha:FSs X sa a) (hb:FSs X sb b):FS X (.If e sa sb pos) (sIf u a b):=zea (ps_if hc ha hb) fun σ H D h=>by
 obtain ⟨ρ,ev,S,o,S',hE,hS,hf,k⟩:=h
 obtain ⟨⟨x,S1⟩,q1,hf⟩:=zaq hf
 refine ⟨ρ,ev,S,x,S1,hE,hS,q1,fun ρ1 H1 E1 hS1=>?_⟩
 cases x with
 | true=>exact iteT ⟨ρ1,ev,S1,o,S',hE.mono E1,hS1,hf,k.ext E1⟩
 | false=>exact iteF ⟨ρ1,ev,S1,o,S',hE.mono E1,hS1,hf,k.ext E1⟩
theorem putRep {K mg ρ H}{n:Str}{d:D}{v:V} (r:Rep K mg ρ H d v):∀{fs:List (Str×D)}{vs:List (Str×V)},RepF K mg ρ H fs vs→RepF K mg ρ H (putD n d fs) (putF n v vs)
 | [],vs,h=>by
   obtain ⟨h1,_⟩:=h
   cases vs with
   | nil=>exact ⟨rfl,RepL.cons r RepL.nil⟩
   | cons _ _=>cases h1
 | (a,b)::fs,vs,h=>by
   obtain ⟨h1,h2⟩:=h
   cases vs with
   | nil=>cases h1
   | cons q vs =>
     obtain ⟨a',b'⟩:=q
     simp only [List.map_cons,List.cons.injEq] at h1
     obtain ⟨h3,h4⟩:=h1
     subst h3
     rw [List.map_cons,List.map_cons] at h2
     unfold RepL at h2
     obtain ⟨u,t,e1,r1,r2⟩:=h2
     cases e1
     rw [show putD n d ((a',b)::fs)=(if a'=n then (a',d)::fs else (a',b)::putD n d fs) from rfl,show putF n v ((a',b')::vs)=(if a'=n then (a',v)::vs else (a',b')::putF n v vs) from rfl]
     by_cases hn:a'=n
     · rw [if_pos hn,if_pos hn]
       exact ⟨by simp [h4],RepL.cons r r2⟩
     · rw [if_neg hn,if_neg hn]
       obtain ⟨i1,i2⟩:=putRep r (fs:=fs) (vs:=vs) ⟨h4,r2⟩
       exact ⟨by rw [List.map_cons,List.map_cons,i1],RepL.cons r1 i2⟩
theorem zws (hc:Fld X.K X.mg c n) (ho:FE X o f) (hv:FE X e g) (hs:swapsWith e (some (.Attribute o n pos')) pos.line X.env=pure false:=by rfl):FS X (.Assign [.Attribute o n pos'] e pos) (zst c n f g) :=
 zea (ps_fld ho hv hs) fun σ H D h=>by
   obtain ⟨ρ,ev,S,o,S',hE,hS,hf,k⟩:=h
   obtain ⟨⟨d,S1⟩,q1,hf⟩:=zaq hf
   obtain ⟨⟨y,S2⟩,q2,hf⟩:=zaq hf
   obtain ⟨⟨i,fs⟩,q3,hf⟩:=zaq hf
   dsimp only at hf q3
   split at hf
   · rename_i hl
     cases hf
     obtain ⟨rfl,hi⟩:=zmc q3
     refine ⟨ρ,ev,S,d,S1,hE,hS,q1,fun v ρ1 H1 E1 hS1 r1=>⟨ρ1,ev,S1,_,S2,hE.mono E1,hS1,q2,fun w ρ2 H2 E2 hS2 r2=>?_⟩⟩
     obtain ⟨b,C,dx,vs,rfl,hb1,hm',hb2,hb3⟩:=zpa hS2 hi r2
     have e0:=zpp hS2 (.ins C dx (putF n v vs)) hb1
     refine ⟨b,C,dx,vs,rfl,hb2,(hc C hm').1,(hc C hm').2,by have:=congrArg List.length hb3.1;simp at this;omega,?_⟩
     have hf2:RepF X.K X.mg ρ2 (upd H2 b (.ins C dx (putF n v vs))) (putD n d fs) (putF n v vs):=putRep ((r1.mono E2).mono e0) ⟨hb3.1,hb3.2.mono e0⟩
     exact k σ ρ2 _ ((E1.trans E2).trans e0) (hS2.set hb1 ⟨C,dx,_,hm',zbj,hf2⟩) (((hE.mono E1).mono E2).mono e0)
   · cases hf
section
variable {K:PySem.W.Frag}{mg:Str→Option Value}{ρ1:List Addr}{H1:Hp}{E:Ends}{S':Sto}{o:Out}{i:Nat}
def Ahead (K:PySem.W.Frag) (mg:Str→Option Value) (ρ1:List Addr) (H1:Hp) (i:Nat) (body:C) (o:Out) (S':Sto) (ds:List D) (σ:St) (H:Hp):Prop :=
 ∃ρ ev S,Ext ρ1 H1 ρ H∧StOk K mg ρ H S∧EnvR K mg ρ H ev σ∧zfz i body ds ev S=some (o,S')
theorem zuh {d:D}{ds:List D}{x:V}{σ:St}{H:Hp}{ρ:List Addr}{ev:Ev}{S:Sto} (k:Post K mg E S' ρ1 H1 o) (e0:Ext ρ1 H1 ρ H) (hS:StOk K mg ρ H S) (hE:EnvR K mg ρ H ev σ) (r:Rep K mg ρ H d x) (hl:zfz i body (d::ds) ev S=some (o,S')) :
   tC K mg body { E with nx:=Ahead K mg ρ1 H1 i body o S' ds,ct:=Ahead K mg ρ1 H1 i body o S' ds,bk:=E.nx } (σ.set i (some x)) H:=by
 obtain ⟨⟨o1,S3⟩,q,hl⟩:=zaq hl
 refine ⟨ρ,ev.set i (some d),S,o1,S3,hE.set r i,hS,q,?_⟩
 cases o1 with
 | nx e=>exact fun σ' ρ' H' E' hS' hE'=>⟨ρ',e,S3,e0.trans E',hS',hE',hl⟩
 | ct e=>exact fun σ' ρ' H' E' hS' hE'=>⟨ρ',e,S3,e0.trans E',hS',hE',hl⟩
 | bk e=>cases hl;exact fun σ' ρ' H' E' hS' hE'=>k σ' ρ' H' (e0.trans E') hS' hE'
 | rt y=>cases hl;exact fun v ρ' H' E' hS' r'=>k v ρ' H' (e0.trans E') hS' r'
theorem zoq {σ:St}{H:Hp} (k:Post K mg E S' ρ1 H1 o) (h:Ahead K mg ρ1 H1 i body o S' [] σ H):E.nx σ H:=by
 obtain ⟨ρ,ev,S,e0,hS,hE,hl⟩:=h
 cases hl
 exact k σ ρ H e0 hS hE
end
theorem fs_forL (i:Nat) {l:Expr}{px:Pos}{sb:List Stmt} (hN:X.N.Nodup) (hl:FE X l f) (hb:FSs X sb body) (hp:PassesOwn (model X.prog X.w) X.A X.env X.xe) (hc:X.calm=true:=by rfl) (hi:X.N[i]? = some x:=by rfl) (hx:Loc X.env.scope x:=by first | exact Or.inl rfl | exact Or.inr rfl)
   (hf:X.fn x=true∨X.env.scope.names.lookup x=some .local:=by first | exact .inl rfl | exact .inr rfl | assumption) (hs:∀v,foldedSetIterable l X.env v=pure v:=by intro _;rfl) :
   FS X (.For (.Name x px) l sb [] pos) (sForL i f body) :=
 zea (ps_for hp hc (zlj hl) (zgz hN hi hx hf) hb hs) fun σ H D h=>by
   obtain ⟨ρ,ev,S,o,S',hE,hS,hf,k⟩:=h
   obtain ⟨⟨d,S1⟩,q1,hf⟩:=zaq hf
   cases d with
   | lst ds =>
     refine ⟨ρ,ev,S,_,S1,hE,hS,q1,fun v ρ1 H1 E1 hS1 r1=>?_⟩
     unfold Rep at r1
     obtain ⟨p,vs,rfl,t,r⟩:=r1
     have k1:=k.ext E1
     refine ⟨p,rfl,⟨vs,t.sq⟩,for_list (K:=X.K) (a:=p) (xs:=vs) (fun j σ' H'=>Ahead X.K X.mg ρ1 H1 i body o S' (ds.drop j) σ' H') ⟨ρ1,ev,S1,Ext.refl _ _,hS1,hE.mono E1,hf⟩ (fun j σ' H' _ ⟨ρ',ev',S2,e0,_⟩=>(t.mono e0).sq) ?_ ?_⟩
     · rintro j y σ' H' hj ⟨ρ',ev',S2,e0,hS2,hE2,hl2⟩
       have hjl:j < ds.length:=by rw [r.length];exact (List.getElem?_eq_some_iff.mp hj).1
       have ed:ds.drop j=ds[j]::ds.drop (j + 1):=List.drop_eq_getElem_cons hjl
       obtain ⟨y',ey,ry⟩:=(r.mono e0).get (List.getElem?_eq_getElem hjl)
       rw [hj] at ey
       cases ey
       rw [ed] at hl2
       exact zuh k1 e0 hS2 hE2 ry hl2
     · intro σ' H' ha
       rw [List.drop_eq_nil_of_le (by rw [r.length];exact Nat.le_refl _)] at ha
       exact zoq k1 ha
   | _=>cases hf
theorem range_ok {K mg}{ρ1:List Addr}{H1:Hp}{E:Ends}{S' S1:Sto}{o:Out}{i n:Nat}{lo:Int}{σ:St}{ev:Ev} (k:Post K mg E S' ρ1 H1 o) (hS1:StOk K mg ρ1 H1 S1) (hE:EnvR K mg ρ1 H1 ev σ) (hf:zfz i body (zbr lo n) ev S1=some (o,S')) :
   ∃W:Nat→Nat→St→Hp→Prop,(∃m,W 0 m σ H1)∧∀j m σ H,W j m σ H →
     ((Itr lo n).stop j H∧E.nx σ H)∨((Itr lo n).go j H∧∃N:St→Hp→Prop,(∀σ' H',N σ' H'→∃m',m' < m∧W (j + 1) m' σ' H')∧∀x H',(Itr lo n).yld j H x H'→znt i x σ H' fun σ2 H2=>tC K mg body { E with nx:=N,ct:=N,bk:=E.nx } σ2 H2):=by
 refine zwt (g:=znt i) (fun j σ' H'=>Ahead K mg ρ1 H1 i body o S' ((zbr lo n).drop j) σ' H') ⟨ρ1,ev,S1,Ext.refl _ _,hS1,hE,hf⟩ ?_ ?_
 · rintro j σ' H' hj ⟨ρ',ev',S2,e0,hS2,hE2,hl2⟩
   have hjl:j < (zbr lo n).length:=by unfold zbr;simpa using hj
   have ed:(zbr lo n).drop j=(zbr lo n)[j]::(zbr lo n).drop (j + 1):=List.drop_eq_getElem_cons hjl
   rw [ed] at hl2
   refine zuh k e0 hS2 hE2 ?_ hl2
   have:(zbr lo n)[j]=D.int (lo + (j:Int)):=by simp [zbr]
   rw [this]
   exact rfl
 · intro σ' H' ha
   rw [List.drop_eq_nil_of_le (by unfold zbr;simp)] at ha
   exact zoq k ha
theorem zwr (i:Nat) {l:Expr}{px p2 p3:Pos}{sb:List Stmt} (hN:X.N.Nodup) (hm:X.mg "range"=none) (hl:FE X l f) (hb:FSs X sb body) (hp:PassesOwn (model X.prog X.w) X.A X.env X.xe) (hg:Gl X "range":=by rfl) (hc:X.calm=true:=by rfl) (hi:X.N[i]? = some x:=by rfl) (hx:Loc X.env.scope x:=by first | exact Or.inl rfl | exact Or.inr rfl)
   (hf:X.fn x=true∨X.env.scope.names.lookup x=some .local:=by first | exact .inl rfl | exact .inr rfl | assumption) (hst:starEach [l] X.env=[(false,eval l X.env)]:=by exact zay rfl) (hs:∀v,foldedSetIterable (.Call (.Name "range" p2) [l] [] p3) X.env v=pure v:=by intro _;rfl) :
   FS X (.For (.Name x px) (.Call (.Name "range" p2) [l] [] p3) sb [] pos) (zva i f body) :=
 zea (ps_for hp hc (znh hg hm (zaa hl zad hst) hst) (zgz hN hi hx hf) hb hs) fun σ H D h=>by
   obtain ⟨ρ,ev,S,o,S',hE,hS,hf,k⟩:=h
   obtain ⟨⟨d,S1⟩,q1,hf⟩:=zaq hf
   cases d with
   | int j =>
     dsimp only at hf
     split at hf
     · rename_i hj
       refine ⟨ρ,ev,S,[.int j],S1,hE,hS,by simp only [aC,aN,q1,Option.bind_some],fun vs ρ1 H1 E1 hS1 r1=>?_⟩
       unfold RepL at r1
       obtain ⟨v,r,rfl,r2,r3⟩:=r1
       unfold RepL at r3
       subst r3
       exact ⟨j,by rw [show v=.int j from r2],hj.1,hj.2,range_ok (k.ext E1) hS1 (hE.mono E1) hf⟩
     · cases hf
   | _=>cases hf
end
open PySem.Spec PyProof.Rows
structure FunD (K:PySem.W.Frag) (x qual:Str) (st:Stmt) (f:Addr) (fd:FuncData) (dV:Value):Prop where
 ex:∃(oc:Value) (od:Option Addr) (kV doc pm:Value) (an:Option Addr) (cdv ct:Value) (osl:Array (Option Value)),
   fd=PySem.W.fnOf x qual (zgd st) (zam st) (zab st) dV kV doc pm an cdv ct∧K.lookup f=some ⟨oc,od,.func fd,osl⟩∧PySem.W.codeIn K cdv qual=true
 kp:PySem.W.keepIn K (.ref f)=true
theorem zjm {N n c ds S r} (h:zaz N n c ds S=some r):ds.length=n:=by
 unfold zaz at h
 split at h
 · rename_i hl;exact hl
 · cases h
theorem zqa {K mg}{c:C}{N:List Str}{n:Nat}{vs:List V}{H:Hp}{Q:VK}{E:XK} (h:spG K mg (zaz N.length n c) vs H Q E):tC K mg c { nx:=fun _ H'=>Q .non H',rt:=Q } (start N vs) H:=by
 obtain ⟨ρ,ds,S,d,S',r,hS,hf,k⟩:=h
 unfold zaz at hf
 split at hf
 · split at hf
   · rename_i e S1 hc
     cases hf
     exact ⟨ρ,_,S,_,_,EnvR.start r,hS,hc,fun σ' ρ' H' E' hS' _=>k .non ρ' H' E' hS' rfl⟩
   · rename_i e S1 hc
     cases hf
     exact ⟨ρ,_,S,_,_,EnvR.start r,hS,hc,k⟩
   · cases hf
 · cases hf
theorem FunD.ok {P:Program}{w:World}{K:PySem.W.Frag}{mg:Str→Option Value}{base:Heap}{x qual:Str}{st:Stmt}{f:Addr}{fd:FuncData}{dV:Value}{N ps:List Str}{k:Nat}{c:C} (F:FunD K x qual st f fd dV) (S:FnScope N ps (zab st))
   (hbody:∀(cdv:Value) (A:Around) (outer:List Env) (s:Shared) (H:Hp) (E:XK),Room k (A.deeper (envOfC qual (zab st) s.heap.objs.size f cdv)) →
     FSs (cxOf CX0 P w K mg base N qual (zab st) f cdv A outer s H E).nox (zam st) c):FnOk P w K mg base CX0 (k + 1) f fd ps (spG K mg (zaz N.length ps.length c)):=by
 obtain ⟨oc,od,kV,doc,pm,an,cdv,ct,osl,rfl,lk,hcd⟩:=F.ex
 refine fn_of lk hcd S (fun vs H Q E h=>?_) fun A outer s H vs Q E hr hsp=>?_
 · obtain ⟨ρ,ds,S,d,S',r,hS,hf,k⟩:=h
   rw [← r.length];exact zjm hf
 · exact ⟨_,(hbody cdv A outer s H E hr).nox,zqa hsp⟩
end F
namespace F
open PySem L2 PySem.Spec PyProof.Rows

def clOf (cells:List (Str×Addr)):List (Str×NameKind)→List (Str×Addr)→List (Str×Addr)
 | [],acc=>acc
 | (n,k)::r,acc=>clOf cells r (if k=.free then (match cells.lookup n with | some c=>(n,c)::acc | none=>acc) else acc)
theorem zdg {cells:List (Str×Addr)}:∀{names:List (Str×NameKind)}{acc:List (Str×Addr)},(∀x c,acc.lookup x=some c→cells.lookup x=some c)→∀x c,(clOf cells names acc).lookup x=some c→cells.lookup x=some c
 | [],_,h=>h
 | (n,k)::r,acc,h=>by
   unfold clOf
   refine zdg (names:=r) ?_
   intro x c
   split
   · split
     · rename_i c' e
       intro q
       simp only [List.lookup] at q
       split at q
       · rename_i hx
         cases q
         rw [beq_iff_eq.mp hx];exact e
       · exact h x c q
     · exact h x c
   · exact h x c
theorem zsc {cells:List (Str×Addr)}{x:Str}:∀{names:List (Str×NameKind)}{acc:List (Str×Addr)},(∃c,acc.lookup x=some c)→∃c,(clOf cells names acc).lookup x=some c
 | [],_,h=>h
 | (n,k)::r,acc,h=>by
   unfold clOf
   refine zsc (names:=r) ?_
   split
   · split
     · rename_i c' e
       simp only [List.lookup]
       split
       · exact ⟨_,rfl⟩
       · exact h
     · exact h
   · exact h
theorem zmr {cells:List (Str×Addr)}{x:Str} (hx:∃c,cells.lookup x=some c):∀{names:List (Str×NameKind)}{acc:List (Str×Addr)},(x,NameKind.free)∈names→∃c,(clOf cells names acc).lookup x=some c
 | [],_,h=>by cases h
 | (n,k)::r,acc,h=>by
   unfold clOf
   rcases List.mem_cons.mp h with e | h
   · cases e
     refine zsc ?_
     obtain ⟨c,hc⟩:=hx
     rw [if_pos rfl,hc]
     exact ⟨c,by simp [List.lookup]⟩
   · exact zmr hx h
theorem zdp {scope:Scope}{env:Env} (h:∀p∈scope.names,p.2=NameKind.free→∃c,env.cells.lookup p.1=some c):closureFor scope env=pure (clOf env.cells scope.names []):=by
 unfold closureFor
 generalize scope.names=names at h
 have key:∀(names:List (Str×NameKind)) (acc:List (Str×Addr)),(∀p∈names,p.2=NameKind.free→∃c,env.cells.lookup p.1=some c) →
     (forIn names acc fun (x:Str×NameKind) (cs:List (Str×Addr))=>(do
       if (x.2 == NameKind.free)=true then do
         let a ← cellOf env x.1
         pure (ForInStep.yield ((x.1,a)::cs))
       else pure (ForInStep.yield cs):Sem (ForInStep (List (Str×Addr)))))=pure (clOf env.cells names acc):=by
   intro names
   induction names with
   | nil=>intro acc _;rfl
   | cons p r ih =>
     intro acc h
     obtain ⟨n,k⟩:=p
     rw [List.forIn_cons]
     unfold clOf
     by_cases hk:k=.free
     · subst hk
       obtain ⟨c,hc⟩:=h (n,.free) List.mem_cons_self rfl
       have hc':env.cells.lookup n=some c:=hc
       simp only [beq_self_eq_true,if_true,cellOf,hc',pure_bind]
       exact ih _ fun q hq=>h q (List.mem_cons_of_mem _ hq)
     · have hb:(k == NameKind.free)=false:=by simpa using hk
       simp only [hb,Bool.false_eq_true,if_false,pure_bind,if_neg hk]
       exact ih _ fun q hq=>h q (List.mem_cons_of_mem _ hq)
 have:=key names [] h
 first
   | (simp only [bind_pure];exact this)
   | (rw [show (fun (x:Str×NameKind) (cs:List (Str×Addr))=>_)=_ from rfl];exact this)
   | exact this

def evAt (ev:Ev) (i:Nat):Option D:=match ev[i]? with
 | some o=>o
 | none=>none
def svAt (σ:L2.St) (i:Nat):Option V:=match σ[i]? with
 | some o=>o
 | none=>none
def ztt (g:E) (fr:Ev):List D→Sto→Option (List D×Sto)
 | [],S=>some ([],S)
 | d::ds,S=>(g (some d::fr) S).bind fun p=>(ztt g fr ds p.2).bind fun q=>some (p.1::q.1,q.2)
def zrx (fr:List Nat) (f g:E):E:=fun ev S=>(f ev S).bind fun p=>match p.1 with
 | .int j=>if -(2 ^ 62)≤j∧j < 2 ^ 62∧j≤(sizeLine:Int) then (ztt g (fr.map (evAt ev)) (zbr 0 j.toNat) p.2).map fun q=>(.lst q.1,q.2) else none
 | _=>none
def zdm (X:Cx) (N':List Str) (scope:Scope) (s₀:Shared) (H₀:Hp) (C:Addr) (ex:List Addr):Cx :=
 { X with N:=N',s₀:=s₀,H₀:=H₀,env:=compEnvC scope (clOf X.env.cells scope.names []) C X.env,outer:=X.stack,ex:=ex,fn:=fun _=>false,pn:=[],xe:=fun _ _=>False }

section
variable {X:Cx}{pins:List (Addr×Obj)}{σ:L2.St}{H:Hp}{s:Shared}{scope:Scope}{x:Str}{N':List Str}{fr:List Nat}
structure CompOk (X:Cx) (scope:Scope) (x:Str) (N':List Str) (fr:List Nat):Prop where
 nd:(x::N').Nodup
 hx:scope.names.lookup x=some .local
 kind:scope.kind=.function
 frn:fr.map (fun j=>X.N[j]?)=N'.map some
 frk:∀y∈N',X.env.kindOf y=some .cell∧(relabel scope X.env).names.lookup y=some .cell
 chk:∀p∈scope.names,p.2≠.cell∧(p.2=.free→X.env.kindOf p.1=some .cell)∧(p.2=.local→scope.names.lookup p.1=some .local)
theorem zgn (nd:(x::N').Nodup) (hx:scope.names.lookup x=some .local) (kind:scope.kind=.function) (frn:fr.map (fun j=>X.N[j]?)=N'.map some)
   (frk:(N'.all fun y=>X.env.kindOf y == some NameKind.cell && (relabel scope X.env).names.lookup y == some NameKind.cell)=true)
   (chk:(scope.names.all fun p=>p.2 != NameKind.cell && (p.2 != NameKind.free || X.env.kindOf p.1 == some NameKind.cell) && (p.2 != NameKind.local || scope.names.lookup p.1 == some NameKind.local))=true):CompOk X scope x N' fr:=by
 refine ⟨nd,hx,kind,frn,fun y hy=>?_,fun p hp=>?_⟩
 · have:=List.all_eq_true.mp frk y hy
   simpa using this
 · have:=List.all_eq_true.mp chk p hp
   simp only [Bool.and_eq_true,Bool.or_eq_true,bne_iff_ne,beq_iff_eq] at this
   exact ⟨this.1.1,fun e=>this.1.2.resolve_left (fun z=>z e),fun e=>this.2.resolve_left (fun z=>z e)⟩
theorem zkk {α:Type}{x:Str}{k:α}:∀{l:List (Str×α)},l.lookup x=some k→(x,k)∈l
 | [],h=>by cases h
 | (n,a)::r,h=>by
   simp only [List.lookup] at h
   split at h
   · rename_i e
     cases h
     rw [beq_iff_eq.mp e];exact List.mem_cons_self
   · exact List.mem_cons_of_mem _ (zkk h)
theorem CompOk.free (c:CompOk X scope x N' fr) {y:Str} (h:(relabel scope X.env).names.lookup y=some .cell∨(relabel scope X.env).names.lookup y=some .free):(y,NameKind.free)∈scope.names:=by
 have go:∀k,(k=NameKind.cell∨k=.free)→(relabel scope X.env).names.lookup y=some k→(y,NameKind.free)∈scope.names:=by
   intro k hk e
   have m:=zkk e
   unfold relabel at m
   obtain ⟨⟨n,k0⟩,hm,e2⟩:=List.mem_map.mp m
   dsimp only at e2
   split at e2
   · rename_i hc
     cases e2
     have:k0=.free:=by
       rw [Bool.and_eq_true,Bool.and_eq_true] at hc
       simpa using hc.1.1
     subst this
     exact hm
   · cases e2
     rcases hk with rfl | rfl
     · exact absurd rfl (c.chk _ hm).1
     · exact hm
 rcases h with h | h
 · exact go _ (.inl rfl) h
 · exact go _ (.inr rfl) h
theorem CompOk.start (c:CompOk X scope x N' fr) (I:Inv X pins σ H s) {fp:List Addr} (hf:∀b∈fp,FpOk X pins H b) (hfl:∀b∈fp,b < s.heap.objs.size) {C:Addr} (hC:s.heap.objs.size≤C) {h1:Heap}{m:Str→Option Value}{t':Nat} (hk:∀b o,s.heap.get? b=some o→h1.get? b=some o) (hn:h1.Ns C m) :
   Inv (zdm X (x::N') scope s H C fp) [] (none::fr.map (svAt σ)) H { s with heap:=h1,toks:=t' }:=by
 have sub:∀y a,(clOf X.env.cells scope.names []).lookup y=some a→X.env.cells.lookup y=some a:=zdg (fun _ _ h=>by cases h)
 have hfs:∀b∈frs X.stack,H b=none:=I.stkFree
 have cellt:∀y a,X.env.cells.lookup y=some a→a < s.heap.objs.size:=fun y a e=>by
   obtain ⟨v,q⟩:=I.cell y a e
   exact q.lt
 refine ⟨⟨I.ok.mod,c.kind,I.ok.glob,I.ok.blt,hC,fun y z a h1 h2=>I.ok.inj y z a (sub _ _ h1) (sub _ _ h2),fun y hy=>?_,fun y a h=>?_,I.ok.hd,I.ok.frames,.inl rfl,fun b hb=>⟨Nat.ne_of_lt (Nat.lt_of_lt_of_le (hfl b hb) hC),fun y a e=>(hf b hb).2.2.2.2.1 y a (sub _ _ e)⟩,I.bs,Nat.le_trans I.ok.bsz I.sz,fun b o e hb=>?_,fun b hb z=>?_,I.stack,hfs⟩,
   rfl,I.bare,Un.kept hk,⟨m,hn,fun i y v e1 e2 e3=>?_⟩,fun y a e=>?_,I.hok.fresh hC,fun y a e=>I.freeC y a (sub _ _ e),fun p hp=>absurd hp (by simp [zdm]),I.hok.kept hk,?_⟩
 · exact zmr (I.ok.has y (.inl ((c.chk _ (c.free hy)).2.1 rfl))) (c.free hy)
 · cases h
 · have:=(I.bs b o e).1
   have z:=hf b hb
   rcases z.2.2.2.1 with z | z
   · exact I.ok.noex b o e z
   · have:=(I.ok.bs b o e).1
     exact absurd (Nat.lt_of_lt_of_le (Heap.lt_size this) z) (Nat.lt_irrefl _)
 · rcases List.mem_cons.mp (I.stkSub b z) with e | e
   · exact (hf b hb).2.1 e
   · exact (hf b hb).2.2.1 e
 · cases i with
   | zero=>simp at e2
   | succ i =>
     have e1:N'[i]? = some y:=by simpa [zdm] using e1
     have e2:(fr.map (svAt σ))[i]? = some (some v):=by simpa using e2
     rw [List.getElem?_map] at e2
     cases ej:fr[i]? with
     | none=>rw [ej] at e2;cases e2
     | some j =>
       rw [ej] at e2
       have e2:svAt σ j=some v:=by simpa using e2
       have hv:σ[j]? = some (some v):=by
         unfold svAt at e2
         split at e2
         · rename_i o ho
           rw [ho,e2]
         · cases e2
       have hN:X.N[j]? = some y:=by
         have q:=congrArg (fun l=>l[i]?) c.frn
         simp only [List.getElem?_map,ej,e1,Option.map_some,Option.some.injEq] at q
         exact q
       obtain ⟨k1,k2⟩:=c.frk y (List.mem_of_getElem? e1)
       obtain ⟨mm,_,hl⟩:=I.loc
       obtain ⟨u,r,l⟩:=hl j y v hN hv (.inr (.inl k1))
       refine ⟨u,r,?_⟩
       rcases l with ⟨k,_⟩ | ⟨_,a,ha,hcl⟩
       · rw [k1] at k;cases k
       · refine .inr ⟨.inl k2,a,?_,?_⟩
         · obtain ⟨a',ha'⟩:=zmr (cells:=X.env.cells) (names:=scope.names) (acc:=[]) ⟨a,ha⟩ (c.free (.inl k2))
           have:=sub _ _ ha'
           rw [ha] at this;cases this
           exact ha'
         · obtain ⟨o,ho,hd⟩:=hcl
           exact ⟨o,hk _ _ ho,hd⟩
 · obtain ⟨v,o,ho,hd⟩:=I.cell y a (sub _ _ e)
   exact ⟨v,o,hk _ _ ho,hd⟩
 · have:=congrArg List.length c.frn
   simp at this
   simp [zdm,this]
theorem Inv.track {p:Addr}{ys:List V}{its:List Value}{n:Nat} (I:Inv X pins σ H s) (hn:H p=none) (ho:s.heap.get? p=some { cls:=.type "list",data:=.seq its.toArray n }) (r:Vals ys its) (hz:ys.length≤sizeLine)
   (h1:p∈X.ex∨X.s₀.heap.objs.size≤p) (hL:p≠X.env.locals) (h2:∀x c,X.env.cells.lookup x=some c→c≠p) (h3:∀q∈X.pn++pins,q.1≠p):Inv X pins σ (upd H p (.lst ys)) s:=by
 refine I.step (g':=s.gens) (d':=s.drawn) (h':=s.heap) (t':=s.toks) (ch:=[p]) (fun b hb=>?_) (fun b o _ _ _ e _=>e) (fun b o _ _ _ e _=>⟨o.slots,e⟩) (fun b o hc e n=>?_) (fun b o _ e=>⟨o,e⟩) (fun b xs e=>?_) (fun b o u e=>?_) (fun b ps e=>⟨#[],?_⟩) (fun _ hm=>hm) (fun b u e=>?_) I.bare
 · rw [List.mem_singleton.mp hb];exact ⟨h1,hL,h2,h3⟩
 · rw [zba (fun z=>hc (by simp [z]))];exact n
 · rw [zba (zbk e hn)];exact e
 · rw [zba (zbk e hn)];exact e
 · rw [zba (zbk e hn),e];simp
 · by_cases hb:b=p
   · subst hb
     rw [zbj] at e
     cases e
     exact ⟨hz,its,n,r,ho⟩
   · rw [zba hb] at e
     exact (I.hok b u e).stay (fun _ _ _ q=>q) (fun c q=>by rw [zba (zbk q hn)];exact q) fun c xs q=>by rw [zba (zbk q hn)];exact q

theorem zej {P:Program}{w:World}{H:Hp}{h h':Heap}{c:Addr} (hok:HOk P w H h) (hs:Heap.SameBut c h h') (hn:H c=none):HOk P w H h':=fun b ob e=>by
 refine (hok b ob e).stay (fun d o hd q=>(hs.2 d ?_).trans q) (fun _ q=>q) fun _ _ q=>q
 rintro rfl
 rcases hd with rfl | hd
 · rw [hn] at e;cases e
 · rw [hn] at hd;cases hd
def CompI (X X':Cx) (g:E) (fre:Ev) (t:L2.St) (fp:List Addr) (tn:Nat→Heap→Prop) (Dl:Addr) (n:Nat) (ρ1:List Addr) (H2:Hp) (ds:List D) (Sf:Sto) (m:Nat) (st:Shared):Prop :=
 ∃(i:Nat) (ρ':List Addr) (H':Hp) (ys:List V) (its:List Value) (acc rest:List D) (Si:Sto) (w:Option V),m=n - i∧i≤n∧Inv X' [] (w::t) H' st∧tn i st.heap∧(∀b∈fp,H' b=none)∧H' Dl=none∧st.heap.PlainList Dl (List.toArray its)∧Vals ys its ∧
   Ext ρ1 H2 ρ' H'∧StOk X.K X.mg ρ' H' Si∧RepL X.K X.mg ρ' H' acc ys∧acc.length=i∧ztt g fre ((zbr 0 n).drop i) Si=some (rest,Sf)∧ds=acc++rest
theorem fe_compR {elt l:Expr}{px p2 p3 pos:Pos}{f g:E} (c:CompOk X scope x N' fr) (hm:X.mg "range"=none) (hl:FE X l f) (helt:∀s₀ H₀ C ex,FE (zdm X (x::N') scope s₀ H₀ C ex) elt g)
   (hg:Gl X "range":=by rfl) (hc:X.calm=true:=by rfl) (hst:starEach [l] X.env=[(false,eval l X.env)]:=by exact zay rfl) (hs:∀v,foldedSetIterable (.Call (.Name "range" p2) [l] [] p3) X.env v=pure v:=by intro _;rfl) :
   FE X (.ListComp elt [⟨.Name x px,.Call (.Name "range" p2) [l] [] p3,[],0⟩] scope pos) (zrx fr f g):=by
 intro pins s σ H Q I h
 obtain ⟨ρ,ev,S,d,S',hE,hS,hf,k⟩:=h
 obtain ⟨⟨y,S1⟩,q1,hf⟩:=zaq hf
 cases y with
 | int j =>
   dsimp only at hf
   split at hf
   · rename_i hj
     obtain ⟨⟨ds,S2⟩,q2,hf⟩:=mapS hf
     cases hf
     rw [eval_ListComp]
     refine wpAny_comprehension_free (use:=none) rfl hs (zdp fun p hp e=>I.ok.has p.1 (.inl ((c.chk p hp).2.1 e))) c.kind (fun y hy e=>(c.chk y hy).2.2 e) ?_
     refine thn (znh (tg:=.Name x px) hg hm (zaa hl zad hst) hst pins s σ H (fun J H1=>∃ρ1,J=Itr 0 j.toNat∧Ext ρ H ρ1 H1∧StOk X.K X.mg ρ1 H1 S1) I ⟨ρ,ev,S,[.int j],S1,hE,hS,by simp only [aC,aN,q1,Option.bind_some],fun vs ρ1 H1 E1 hS1 r1=>?_⟩) fun v s1 h1=>thn h1 fun itv s2 h2=>?_
     · unfold RepL at r1
       obtain ⟨v,r,rfl,r2,r3⟩:=r1
       unfold RepL at r3
       subst r3
       exact ⟨j,by rw [show v=.int j from r2],hj.1,hj.2.1,ρ1,rfl,E1,hS1⟩
     obtain ⟨it,fp,tn,J,H2,e,I2,T,st2,f2,ρ1,eJ,E1,hS1⟩:=h2
     subst e eJ
     have hE1:=hE.mono E1
     have hcell:∀y∈scope.names,y.2≠.cell:=fun y hy=>(c.chk y hy).1
     refine wpAny_newObj_type (wpAny_newFunctionEnv hcell (by intro y hy;simp at hy) (fun h₁ hns₁ hsb₁=>?_) c.kind)
     dsimp only at hns₁ hsb₁ ⊢
     generalize hH2:s2.heap.push { cls:=.type "list",dict:=none,data:=.seq ([]:List Value).toArray }=G2 at hns₁ hsb₁ ⊢
     have hC:G2.objs.size=s2.heap.objs.size + 1:=by rw [← hH2,Heap.size_push]
     have hDC:s2.heap.objs.size≠G2.objs.size:=by rw [hC];exact Nat.ne_of_lt (Nat.lt_succ_self _)
     have hCle:s2.heap.objs.size≤G2.objs.size:=by rw [hC];exact Nat.le_succ _
     have old:∀b o,s2.heap.get? b=some o→h₁.get? b=some o:=fun b o e=>hsb₁.extBut b o (by rw [hC];exact Nat.ne_of_lt (Nat.lt_succ_of_lt (Heap.lt_size e))) (Heap.get?_push_of_some _ (hH2 ▸ Heap.get?_push_of_some _ e))
     have hacc:h₁.PlainList s2.heap.objs.size #[]:=⟨_,hsb₁.extBut _ _ hDC (Heap.get?_push_of_some _ (hH2 ▸ Heap.get?_push_size _ rfl))⟩
     generalize hDl:s2.heap.objs.size=Dl at hDC hCle hacc
     generalize hCC:G2.objs.size=C at hDC hCle hns₁ hsb₁ hC ⊢
     have hfl:∀b∈fp,b < Dl:=fun b hb=>by
       obtain ⟨o,e,_⟩:=T.obj 0 _ st2 b hb
       rw [← hDl];exact Heap.lt_size e
     have hHD:H2 Dl=none:=I2.hok.fresh (by rw [hDl];exact Nat.le_refl _)
     have hDfs:Dl∉frs X.stack:=fun z=>by
       have z':=I2.stkFree Dl z
       rcases List.mem_cons.mp (I2.stkSub Dl z) with e | e
       · have:=I2.lt
         rw [hDl,← e] at this
         exact Nat.lt_irrefl _ this
       · exact I2.nofs (by rw [hDl];exact Nat.le_refl _) e
     generalize hX':zdm X (x::N') scope s2 H2 C fp=X'
     have I3:Inv X' [] (none::fr.map (svAt σ)) H2 { s2 with heap:=h₁,toks:=s2.toks + ([]:List (Str×Value)).length }:=hX' ▸ c.start I2 f2 (by rw [hDl];exact hfl) (by rw [hDl];exact hCle) old hns₁
     have hEf:EnvR X.K X.mg ρ1 H2 (none::fr.map (evAt ev)) (none::fr.map (svAt σ)):=by
       refine ⟨by simp,fun i d q=>?_⟩
       cases i with
       | zero=>simp at q
       | succ i =>
         have q:(fr.map (evAt ev))[i]? = some (some d):=by simpa using q
         rw [List.getElem?_map] at q
         cases ej:fr[i]? with
         | none=>rw [ej] at q;cases q
         | some jj =>
           rw [ej] at q
           have q:evAt ev jj=some d:=by simpa using q
           have hv:ev[jj]? = some (some d):=by
             unfold evAt at q
             split at q
             · rename_i o ho
               rw [ho,q]
             · cases q
           obtain ⟨v,e1,r⟩:=hE1.at_ jj d hv
           refine ⟨v,?_,r⟩
           show (fr.map (svAt σ))[i]? = some (some v)
           rw [List.getElem?_map,ej]
           show some (svAt σ jj)=_
           unfold svAt
           rw [e1]
     have eA:X'.A=X.A:=by rw [← hX'];rfl
     have eP:X'.prog=X.prog:=by rw [← hX'];rfl
     have eW:X'.w=X.w:=by rw [← hX'];rfl
     have eK:X'.K=X.K:=by rw [← hX'];rfl
     have eM:X'.mg=X.mg:=by rw [← hX'];rfl
     have eEx:X'.ex=fp:=by rw [← hX'];rfl
     have eS0:X'.s₀=s2:=by rw [← hX'];rfl
     have eH0:X'.H₀=H2:=by rw [← hX'];rfl
     have eFs:X'.fs=frs X.stack:=by rw [← hX'];rfl
     have eL:X'.env.locals=C:=by rw [← hX'];rfl
     have ePn:X'.pn=[]:=by rw [← hX'];rfl
     have eEnv:X'.env=compEnvC scope (clOf X.env.cells scope.names []) C X.env:=by rw [← hX'];rfl
     have eCalm:X'.calm=true:=by rw [← hX'];exact hc
     have eXe:X'.xe=fun _ _=>False:=by rw [← hX'];rfl
     have pgx:PG X' (.Name x px) (znt 0):=by
       rw [← hX']
       exact zgz c.nd rfl (.inl (lookup_relabel_local c.hx)) (.inr (lookup_relabel_local c.hx))
     have fel:FE X' elt g:=hX' ▸ helt s2 H2 C fp
     have cellLt:∀y a,X'.env.cells.lookup y=some a→a < Dl:=fun y a e=>by
       rw [eEnv] at e
       obtain ⟨v,q⟩:=I2.cell y a (zdg (fun _ _ h=>by cases h) y a e)
       rw [← hDl];exact q.lt
     have stat:∀{H':Hp}{pl:List (Addr×Obj)},(∀b∈fp,H' b=none)→(∀p∈pl,∀b∈fp,p.1≠b)→∀b∈fp,FpOk X' pl H' b:=fun {H' pl} hn hp b hb =>
       ⟨hn b hb,by rw [eL];exact Nat.ne_of_lt (Nat.lt_of_lt_of_le (hfl b hb) hCle),by rw [eFs];intro z;rcases List.mem_cons.mp (I2.stkSub b z) with e | e;exact (f2 b hb).2.1 e;exact (f2 b hb).2.2.1 e,.inl (by rw [eEx];exact hb),fun y a e=>by
         rw [eEnv] at e
         exact (f2 b hb).2.2.2.2.1 y a (zdg (fun _ _ h=>by cases h) y a e),fun p hpp=>hp p (by rw [ePn] at hpp;simpa using hpp) b hb⟩
     have loop:∀s₃:Shared,s₃={ s2 with heap:=h₁,toks:=s2.toks + ([]:List (Str×Value)).length } →
         codeAny (model X.prog X.w) X.A (.compLoop (.ListComp elt [⟨.Name x px,.Call (.Name "range" p2) [l] [] p3,[],0⟩] scope pos) 0 (.ref it) (.ref Dl) (compEnvC scope (clOf X.env.cells scope.names []) C X.env))
           (compPost (model X.prog X.w) X.A X.xe none (EP X pins σ Q) (.ref Dl) C) s₃:=by
       rintro s₃ rfl
       refine codeAny_compLoop_list (CompI X X' g (fr.map (evAt ev)) (fr.map (svAt σ)) fp tn Dl j.toNat ρ1 H2 ds S2) ?_ (j.toNat - 0)
         ⟨0,ρ1,H2,[],[],[],ds,S1,none,rfl,Nat.zero_le _,I3,T.keep _ _ _ st2 (fun b hb o e=>old b o e),fun b hb=>(f2 b hb).1,hHD,hacc,.nil,Ext.refl _ _,hS1,RepL.nil,rfl,q2,rfl⟩
       intro m st hI
       generalize notedBy (model X.prog X.w) X.A (compEnvC scope (clOf X.env.cells scope.names []) C X.env) (fun e s'=>compPost (model X.prog X.w) X.A X.xe none (EP X pins σ Q) (.ref Dl) C (.error e) s')=EE
       obtain ⟨i,ρ',H',ys,its,acc,rest,Si,w,rfl,hi,I',tni,hfp',hD',⟨nn,hpl⟩,rv,E',hSi,ra,hal,hcl,hds⟩:=hI
       have Ip:Inv X' [(Dl,{ cls:=.type "list",data:=.seq (List.toArray its) nn })] (w::fr.map (svAt σ)) H' st:=I'.pins_of fun p hp=>by
         rw [List.mem_singleton.mp hp]
         exact ⟨hpl,hD',by rw [eL];exact hDC,by rw [eFs];exact hDfs,fun v z=>by cases z⟩
       have hnp:∀p∈[(Dl,({ cls:=.type "list",data:=.seq (List.toArray its) nn }:Obj))],∀b∈fp,p.1≠b:=fun p hp b hb=>by
         rw [List.mem_singleton.mp hp]
         exact Ne.symm (Nat.ne_of_lt (hfl b hb))
       by_cases hlt:i < j.toNat
       · have hrd:(zbr 0 j.toNat).drop i=D.int (0 + (i:Int))::(zbr 0 j.toNat).drop (i + 1):=by
           have hjl:i < (zbr 0 j.toNat).length:=by unfold zbr;simpa using hlt
           rw [List.drop_eq_getElem_cons hjl]
           simp [zbr]
         rw [hrd] at hcl
         obtain ⟨⟨yv,Sn⟩,qe,hcl⟩:=zaq hcl
         obtain ⟨⟨rest',Se⟩,qr,hcl⟩:=zaq hcl
         cases hcl
         have ti:=T.item X' eP eW eK eCalm i [(Dl,{ cls:=.type "list",data:=.seq (List.toArray its) nn })] st (w::fr.map (svAt σ)) H' EE Ip (stat hfp' hnp) tni hlt
         rw [eA] at ti
         refine thn ti fun r s4 ⟨u,hr,h4⟩=>?_
         subst hr
         dsimp only
         show wpAny (model X.prog X.w) X.A (letOwnedTupleGo (.Name x px) (.ref it) u >>= fun _=>assign (.Name x px) (compEnvC scope (clOf X.env.cells scope.names []) C X.env) u) _ _ _
         refine wpAny_bind (thn h4 fun _ s5 ⟨xv,H5,I5,r5,y5,tn5,fp5⟩=>?_)
         obtain ⟨eH5,exv⟩:=y5
         subst eH5 exv
         have I5':=I5.pinned (stat fp5 hnp) (T.obj _ _ tn5)
         have as5:=pgx _ s5 _ H5 _ u (fun σ' H'=>H'=H5∧σ'=(w::fr.map (svAt σ)).set 0 (some (.int (0 + (i:Int))))) I5' r5 ⟨rfl,rfl⟩
         rw [eP,eW,eA,eEnv,eXe] at as5
         refine wpAny_mono as5 (fun _ s6 ⟨σ6,H6,I6,eH6,eσ6⟩=>?_) (fun _ _ z=>False.elim z)
         subst eH6 eσ6
         have hE6:EnvR X.K X.mg ρ' H6 (some (.int (0 + (i:Int)))::fr.map (evAt ev)) (some (.int (0 + (i:Int)))::fr.map (svAt σ)):=(hEf.mono E').set (i:=0) (d:=.int (0 + (i:Int))) (v:=.int (0 + (i:Int))) rfl
         have el6:=fel _ s6 _ H6 (fun v H7=>∃ρ7,Ext ρ' H6 ρ7 H7∧StOk X.K X.mg ρ7 H7 Sn∧Rep X.K X.mg ρ7 H7 yv v) I6 ⟨ρ',_,Si,yv,Sn,by rw [eK,eM];exact hE6,by rw [eK,eM];exact hSi,qe,fun v ρ7 H7 E7 hS7 r7=>⟨ρ7,E7,by rw [eK,eM] at hS7;exact hS7,by rw [eK,eM] at r7;exact r7⟩⟩
         rw [eP,eW,eA,eEnv,eXe] at el6
         refine wpAny_mono el6 (fun u7 s7 ⟨v7,H7,I7,r7,ρ7,E7,hS7,rp7⟩=>?_) (fun _ _ z=>False.elim z)
         have hpin:=I7.pin (Dl,{ cls:=.type "list",data:=.seq (List.toArray its) nn }) (List.mem_append_right _ (List.mem_append_left _ (List.mem_singleton.mpr rfl)))
         have hvl:=rv.length
         have hral:=ra.length
         refine wpAny_list_append_plain ⟨nn,hpin.1⟩ (fun h8 hp8 hsb8=>?_) (by rw [List.size_toArray];omega)
         have I8:Inv X' [] (some (.int (0 + (i:Int)))::fr.map (svAt σ)) H7 { s7 with heap:=h8 }:=by
           have I7':Inv X' [] (some (.int (0 + (i:Int)))::fr.map (svAt σ)) H7 s7:=I7.pins_of fun p hp=>by cases hp
           exact I7'.turned (it:=Dl) (t':=s7.toks) (fun b o hb e=>(hsb8.2 b hb).trans e) hpin.2.1 (by rw [eL];exact hDC) (.inr (by rw [eS0,hDl];exact Nat.le_refl _)) (fun y a e=>Nat.ne_of_lt (cellLt y a e)) (fun p hp=>by rw [ePn] at hp;cases hp)
         have tn8:tn (i + 1) h8:=T.keep _ _ _ tn5 fun b hb o e=>by
           have:=(I7.pin (b,o) (List.mem_append_right _ (List.mem_append_right _ (zbg hb e)))).1
           exact (hsb8.2 b (Nat.ne_of_lt (hfl b hb))).trans this
         refine ⟨j.toNat - (i + 1),by omega,i + 1,ρ7,H7,ys++[v7],its++[u7],acc++[yv],rest',Sn,_,rfl,by omega,I8,tn8,fun b hb=>?_,hpin.2.1,?_,rv.append (.cons r7 .nil),E'.trans E7,hS7,(ra.mono E7).append (RepL.cons rp7 RepL.nil),by simp [hal],qr,by simp [hds]⟩
         · obtain ⟨o,e,dd⟩:=T.obj _ _ tn5 b hb
           exact (I7.pin (b,o) (List.mem_append_right _ (List.mem_append_right _ (zbg hb e)))).2.1
         · rw [show (its++[u7]).toArray=its.toArray.push u7 by simp]
           exact hp8
       · have ei:i=j.toNat:=by omega
         have td:=T.done X' eP eW eK eCalm i [(Dl,{ cls:=.type "list",data:=.seq (List.toArray its) nn })] st (w::fr.map (svAt σ)) H' EE Ip (stat hfp' hnp) tni (by show j.toNat≤i;omega)
         rw [eA] at td
         refine thn td fun r s4 ⟨hr,I4⟩=>?_
         subst hr
         dsimp only
         rw [List.drop_eq_nil_of_le (by unfold zbr;simp;omega)] at hcl
         cases hcl
         rw [List.append_nil] at hds
         subst hds
         obtain ⟨mm,hns,_⟩:=id I4.loc
         rw [eL] at hns
         refine ⟨mm,hns,fun h' hs'=>?_⟩
         have hpin:=I4.pin (Dl,{ cls:=.type "list",data:=.seq (List.toArray its) nn }) (List.mem_append_right _ (List.mem_singleton.mpr rfl))
         have hHC:H' C=none:=by
           have:=I4.free
           rw [eL] at this
           exact this
         have bs:=I4.base
         rw [eFs,eEx,eH0,eS0] at bs
         have nC:∀b o,s2.heap.get? b=some o→b≠C:=fun b o e z=>by
           have:=Heap.lt_size e
           rw [hDl,z] at this
           exact Nat.lt_irrefl _ (Nat.lt_of_lt_of_le this hCle)
         have un:Un (frs X.stack) fp H2 H' s2.heap h' :=
           ⟨fun b o e n h1 h2=>(hs'.2 b (nC b o e)).trans (bs.keep b o e n h1 h2),fun b o e n h1 h2=>by
             obtain ⟨sl,q⟩:=bs.slot b o e n h1 h2
             exact ⟨sl,(hs'.2 b (nC b o e)).trans q⟩,bs.free,fun b o e h2=>by
             obtain ⟨o',q⟩:=bs.there b o e h2
             exact ⟨o',(hs'.2 b (nC b o e)).trans q⟩,bs.tups,bs.frzs,bs.tbls⟩
         have hok4:=I4.hok
         rw [eP,eW] at hok4
         have os4:=I4.os
         rw [eS0] at os4
         have I9:Inv X pins σ H' { s4 with heap:=h' }:=I2.call' (s':={ s4 with heap:=h' }) os4 un (zej hok4 hs' hHC) I4.bare fun b hb=>by
           obtain ⟨_,a1,a2,a3,a4,a5⟩:=f2 b hb
           exact ⟨a3,a1,a4,a5⟩
         have hvl:=rv.length
         have hral:=ra.length
         have hDl2:s2.heap.objs.size≤Dl:=by rw [hDl];exact Nat.le_refl _
         have I10:Inv X pins σ (upd H' Dl (.lst ys)) { s4 with heap:=h' }:=Inv.track (its:=its) (n:=nn) I9 hD' ((hs'.2 Dl hDC).trans hpin.1) rv (by omega) (.inr (Nat.le_trans I2.sz hDl2)) (Ne.symm (Nat.ne_of_lt (Nat.lt_of_lt_of_le I2.lt hDl2)))
           (fun y a e=>by
             obtain ⟨v,q⟩:=I2.cell y a e
             exact Nat.ne_of_lt (Nat.lt_of_lt_of_le q.lt hDl2)) (fun q hq z=>by
             have:=Heap.lt_size (I2.pin q hq).1
             rw [hDl,z] at this
             exact Nat.lt_irrefl _ this)
         refine ⟨.ref Dl,upd H' Dl (.lst ys),I10,rfl,?_⟩
         exact k _ ρ' _ (E1.trans (E'.trans (zbv hSi _ hD'))) (hSi.new _ hD') (Rep.lst (s:=hSi) hD' ra)
     exact codeAny_compStart_list (loop _ rfl) (T.self X.A 0 _ _ _ (T.keep _ _ _ st2 (fun b hb o e=>old b o e)) (loop _ rfl))
   · cases hf
 | _=>cases hf
end
end F
namespace F
open PySem L2 PySem.Spec PyProof.Rows

def IB (i:Int):Prop:=i.natAbs < 2 ^ 4096
instance (i:Int):Decidable (IB i):=inferInstanceAs (Decidable (_ < _))
def zbm:D→D→Option D
 | .int i,.int j=>some (.int (i + j))
 | .str x,.str y=>if x.length + y.length≤sizeLine then some (.str (x++y)) else none
 | .lst a,.lst b=>if a.length + b.length≤sizeLine then some (.lst (a++b)) else none
 | .tup a,.tup b=>if a.length + b.length≤sizeLine then some (.tup (a++b)) else none
 | _,_=>none
def opI (g:Int→Int→Option Int):D→D→Option D
 | .int i,.int j=>(g i j).map D.int
 | _,_=>none
def opIB (g:Int→Int→Bool):D→D→Option D
 | .int i,.int j=>some (.bl (g i j))
 | _,_=>none
def mulI (i j:Int):Option Int:=if (-(2 ^ 64) < i∧i < 2 ^ 64)∨(-(2 ^ 64) < j∧j < 2 ^ 64)∨(IB i∧IB j) then some (i * j) else none
def divI (i j:Int):Option Int:=if 0 < j∧j < 1073741824 then some (i / j) else none
def modI (i j:Int):Option Int:=if 0 < j then some (i % j) else none
def powI (i j:Int):Option Int:=if 0≤j∧j≤1000000∧i.natAbs < 2 ^ 64 then some (i ^ j.toNat) else none
def zet:D→D→Option D:=opI fun i j=>some (i - j)
def zep:D→D→Option D:=opI mulI
def zjs:D→D→Option D:=opI divI
def zcw:D→D→Option D:=opI modI
def zid:D→D→Option D:=opI powI
def opLt:D→D→Option D:=opIB fun i j=>decide (i < j)
def opLe:D→D→Option D:=opIB fun i j=>decide (i≤j)
def opGt:D→D→Option D:=opIB fun i j=>decide (j < i)
def opGe:D→D→Option D:=opIB fun i j=>decide (j≤i)
def zwh:D→Bool
 | .non=>true
 | _=>false
def opIs:D→D→Option D
 | d,.non=>some (.bl (zwh d))
 | .bl a,.bl b=>some (.bl (a == b))
 | _,_=>none
def zdr:D→D→Option D
 | d,.non=>some (.bl (!zwh d))
 | .bl a,.bl b=>some (.bl (a != b))
 | _,_=>none
def opIx (S:Sto):D→D→Option D
 | .lst ds,.int i=>atI ds i
 | .tup ds,.int i=>atI ds i
 | .str z,.int i=>if z.length≤sizeLine then (atI z.cps.toList i).map fun c=>.str ⟨#[c]⟩ else none
 | .obj a,.int i=>(match S[a]? with
   | some (.lst ds)=>atI ds i
   | _=>none)
 | _,_=>none

section
variable {X:Cx}{K:PySem.W.Frag}{mg:Str→Option Value}
theorem Rep.refI {ρ H i v} (h:Rep K mg ρ H (.int i) v):v=.int i:=h
theorem Rep.refS {ρ H i v} (h:Rep K mg ρ H (.str i) v):v=.str i:=h
theorem Rep.refT {ρ H ds v} (h:Rep K mg ρ H (.tup ds) v):∃p vs,v=.ref p∧TupAt K ρ H p vs∧RepL K mg ρ H ds vs:=by unfold Rep at h;exact h
theorem Rep.refL {ρ H ds v} (h:Rep K mg ρ H (.lst ds) v):∃p vs,v=.ref p∧LstAt K ρ H p vs∧RepL K mg ρ H ds vs:=by unfold Rep at h;exact h
def rCatL (K:PySem.W.Frag):R2:=fun x y H Q=>∃l b xs zs,x=.ref l∧y=.ref b∧SqL K H l xs∧SqL K H b zs∧xs.length + zs.length≤sizeLine∧∀p,H p=none→Q (.ref p) (upd H p (.lst (xs++zs)))
theorem op_catL:OpR X (binaryOp .Add) (rCatL X.K):=by
 intro pins s σ H x y v u Q I rx ry h
 obtain ⟨l,b,xs,zs,rfl,rfl,hH,hB,hz,q⟩:=h
 cases rx
 cases ry
 obtain ⟨its,r,pl,_⟩:=I.list hH
 obtain ⟨its2,r2,pl2,_⟩:=I.list hB
 obtain ⟨⟨cls,dd,data,sl⟩,ho,hc,n,hd⟩:=pl.isList
 obtain ⟨⟨cls2,dd2,data2,sl2⟩,ho2,hc2,n2,hd2⟩:=pl2.isList
 simp only at hc hd hc2 hd2
 subst hc hd hc2 hd2
 have e:its.toArray++its2.toArray=(its++its2).toArray:=by simp
 have h1:=r.length
 have h2:=r2.length
 refine concat_meets ⟨_,ho,rfl⟩ ⟨_,ho2,rfl⟩ noFill_list_add seq_list_add PySem.F.slot_list_add PySem.F.entry_list_add (PySem.F.args_list_add_2 _ _) (list_addW l b its.toArray its2.toArray n n2 dd dd2 sl sl2 (by simp only [List.size_toArray];omega)) ⟨ho,ho2,?_⟩
 rw [e]
 exact ⟨.ref _,_,I.lnew (t':=s.toks) (r.append r2) (by rw [List.length_append];omega),rfl,q _ I.fresh⟩
def rCatT0 (K:PySem.W.Frag):R2:=fun x y H Q=>∃a b ys,x=.ref a∧y=.ref b∧SqT K H a []∧SqT K H b ys∧Q (.ref b) H
theorem op_catT0:OpR X (binaryOp .Add) (rCatT0 X.K):=by
 intro pins s σ H x y v u Q I rx ry h
 obtain ⟨a,b,ys,rfl,rfl,ha,hb,q⟩:=h
 cases rx
 cases ry
 obtain ⟨its,r1,p1,_⟩:=I.tuple ha
 obtain ⟨its2,r2,p2,_⟩:=I.tuple hb
 cases r1
 obtain ⟨⟨cls,dd,data,sl⟩,ho,hc,n,hd⟩:=id p1
 obtain ⟨⟨cls2,dd2,data2,sl2⟩,ho2,hc2,n2,hd2⟩:=id p2
 simp only at hc hd hc2 hd2
 subst hc hd hc2 hd2
 exact concat_meets ⟨_,ho,rfl⟩ ⟨_,ho2,rfl⟩ noFill_tuple_add seq_tuple_add PySem.F.slot_tuple_add PySem.F.entry_tuple_add (PySem.F.args_tuple_add_2 _ _)
   (tuple_addW0 a b _ _ n n2 dd dd2 sl sl2 rfl) ⟨ho,ho2,⟨.ref b,H,I,rfl,q⟩⟩
theorem snd_add:Snd2 K mg (fun x y H Q=>rI0 (fun i j=>.int (i + j)) x y H Q∨(∃i j,x=.str i∧y=.str j∧i.length + j.length≤sizeLine∧Q (.str (i++j)) H)∨rCatL K x y H Q∨rCatT K x y H Q∨rCatT0 K x y H Q) (fun _=>zbm):=by
 intro ρ H S x y dx dy d Q hS rx ry e k
 replace e:zbm dx dy=some d:=e
 unfold zbm at e
 split at e
 · rename_i i j
   cases e
   rw [rx.refI,ry.refI]
   exact .inl ⟨i,j,rfl,rfl,k _ H (Ext.refl _ _) hS rfl⟩
 · rename_i i j
   split at e
   · rename_i hl
     cases e
     rw [rx.refS,ry.refS]
     exact .inr (.inl ⟨i,j,rfl,rfl,hl,k _ H (Ext.refl _ _) hS rfl⟩)
   · cases e
 · rename_i a b
   split at e
   · rename_i hl
     cases e
     obtain ⟨p,vs,rfl,t1,r1⟩:=rx.refL
     obtain ⟨q,us,rfl,t2,r2⟩:=ry.refL
     refine .inr (.inr (.inl ⟨p,q,vs,us,rfl,rfl,t1.sq,t2.sq,by rw [← r1.length,← r2.length];exact hl,fun z hz=>?_⟩))
     exact k _ _ (zbv hS _ hz) (hS.new _ hz) (Rep.lst (s:=hS) hz (r1.append r2))
   · cases e
 · rename_i a b
   split at e
   · rename_i hl
     cases e
     obtain ⟨p,vs,rfl,t1,r1⟩:=rx.refT
     obtain ⟨q,us,rfl,t2,r2⟩:=ry.refT
     cases a with
     | nil =>
       have:=r1.length
       cases vs with
       | nil=>exact .inr (.inr (.inr (.inr ⟨p,q,us,rfl,rfl,t1.sq,t2.sq,k _ H (Ext.refl _ _) hS ry⟩)))
       | cons _ _=>simp at this
     | cons a0 a =>
       refine .inr (.inr (.inr (.inl ⟨p,q,vs,us,rfl,rfl,t1.sq,t2.sq,?_,by rw [← r1.length,← r2.length];exact hl,fun z=>?_,fun z w hw=>?_⟩)))
       · intro z
         have:=r1.length
         subst z
         simp at this
       · have:=r2.length
         subst z
         cases b with
         | nil=>rw [List.append_nil] at k;exact k _ H (Ext.refl _ _) hS rx
         | cons _ _=>simp at this
       · exact k _ _ (zbv hS _ hw) (hS.new _ hw) (Rep.tup (s:=hS) hw (r1.append r2))
   · cases e
 · cases e
theorem zbt {a b:Expr}{f g:E}{pos:Pos} (ha:FE X a f) (hb:FE X b g):FE X (.BinOp a .Add b pos) (e2 zbm f g) :=
 zkn (op_add.or (op_add_str.or (op_catL.or (op_catT.or op_catT0)))) snd_add ha hb
theorem snd_I {C:Int→Int→Prop}{gV:Int→Int→Int}{g:Int→Int→Option Int} (h:∀i j z,g i j=some z→C i j∧z=gV i j):Snd2 K mg (rI C fun i j=>.int (gV i j)) (fun _=>opI g):=by
 intro ρ H S x y dx dy d Q hS rx ry e k
 replace e:opI g dx dy=some d:=e
 unfold opI at e
 split at e
 · rename_i i j
   obtain ⟨z,e1,e⟩:=mapS e
   cases e
   obtain ⟨hc,rfl⟩:=h i j z e1
   rw [rx.refI,ry.refI]
   exact ⟨i,j,rfl,rfl,hc,k _ H (Ext.refl _ _) hS rfl⟩
 · cases e
theorem snd_I0 {gV:Int→Int→Int}:Snd2 K mg (rI0 fun i j=>.int (gV i j)) (fun _=>opI fun i j=>some (gV i j)):=by
 intro ρ H S x y dx dy d Q hS rx ry e k
 replace e:opI _ dx dy=some d:=e
 unfold opI at e
 split at e
 · rename_i i j
   cases e
   rw [rx.refI,ry.refI]
   exact ⟨i,j,rfl,rfl,k _ H (Ext.refl _ _) hS rfl⟩
 · cases e
theorem zer {g:Int→Int→Bool}:Snd2 K mg (rI0 fun i j=>.bl (g i j)) (fun _=>opIB g):=by
 intro ρ H S x y dx dy d Q hS rx ry e k
 replace e:opIB g dx dy=some d:=e
 unfold opIB at e
 split at e
 · rename_i i j
   cases e
   rw [rx.refI,ry.refI]
   exact ⟨i,j,rfl,rfl,k _ H (Ext.refl _ _) hS rfl⟩
 · cases e
variable {a b:Expr}{f g:E}{pos:Pos}
theorem zen (ha:FE X a f) (hb:FE X b g):FE X (.BinOp a .Sub b pos) (e2 zet f g):=zkn op_sub snd_I0 ha hb
theorem bits_IB {i:Int} (h:IB i):Builtin.Int.intBits i≤2 ^ 20:=by
 unfold IB at h
 unfold Builtin.Int.intBits
 have:i.natAbs.log2 < 4096:=by
   by_cases h0:i.natAbs=0
   · rw [h0];decide
   · exact (Nat.log2_lt h0).mpr h
 split <;> omega
theorem op_mulW:OpR X (binaryOp .Mult) (rI (fun i j=>CMul i j∨(IB i∧IB j)) fun i j=>.int (i * j)) :=
 L2.opI fun i j _ _ _ _ _ hc q=>mul_int q (by
   rcases hc with hc | ⟨h1,h2⟩
   · exact hc.ok
   · exact IntMulOk.of_bits (bits_IB h1) (bits_IB h2))
theorem zhg (ha:FE X a f) (hb:FE X b g):FE X (.BinOp a .Mult b pos) (e2 zep f g):=zkn op_mulW (snd_I fun i j z e=>by
 unfold mulI at e
 split at e
 · rename_i h
   cases e
   refine ⟨?_,rfl⟩
   rcases h with h | h | h
   · exact .inl (.inl h)
   · exact .inl (.inr h)
   · exact .inr h
 · cases e) ha hb
theorem znv (ha:FE X a f) (hb:FE X b g):FE X (.BinOp a .FloorDiv b pos) (e2 zjs f g):=zkn op_fdiv (snd_I fun i j z e=>by
 unfold divI at e
 split at e
 · rename_i h;cases e;exact ⟨h,rfl⟩
 · cases e) ha hb
theorem zdk (ha:FE X a f) (hb:FE X b g):FE X (.BinOp a .Mod b pos) (e2 zcw f g):=zkn op_mod (snd_I fun i j z e=>by
 unfold modI at e
 split at e
 · rename_i h;cases e;exact ⟨h,rfl⟩
 · cases e) ha hb
theorem zrp (ha:FE X a f) (hb:FE X b g):FE X (.BinOp a .Pow b pos) (e2 zid f g):=zkn op_pow (snd_I fun i j z e=>by
 unfold powI at e
 split at e
 · rename_i h;cases e;exact ⟨h,rfl⟩
 · cases e) ha hb
theorem fe_lt (ha:FE X a f) (hb:FE X b g) (hm:behindInMarks .Lt b=false:=by exact zee _):FE X (.Compare a [.Lt] [b] pos) (e2 opLt f g):=znw op_lt zer ha hb hm
theorem fe_le (ha:FE X a f) (hb:FE X b g) (hm:behindInMarks .LtE b=false:=by exact zee _):FE X (.Compare a [.LtE] [b] pos) (e2 opLe f g):=znw zsz zer ha hb hm
theorem fb_lt (ha:FE X a f) (hb:FE X b g) (hm:behindInMarks .Lt b=false:=by exact zee _):FB X (.Compare a [.Lt] [b] pos) (bE (e2 opLt f g)):=zhh op_lt zer ha hb hm
theorem fb_le (ha:FE X a f) (hb:FE X b g) (hm:behindInMarks .LtE b=false:=by exact zee _):FB X (.Compare a [.LtE] [b] pos) (bE (e2 opLe f g)):=zhh zsz zer ha hb hm
theorem ztl (ha:FE X a f) (hb:FE X b g) (hm:behindInMarks .Gt b=false:=by exact zee _):FB X (.Compare a [.Gt] [b] pos) (bE (e2 opGt f g)):=zhh op_gt zer ha hb hm
theorem fb_ge (ha:FE X a f) (hb:FE X b g) (hm:behindInMarks .GtE b=false:=by exact zee _):FB X (.Compare a [.GtE] [b] pos) (bE (e2 opGe f g)):=zhh op_ge zer ha hb hm

theorem zrm {ρ H d v} (h:Rep K mg ρ H d v):zwh d=decide (v=.non):=by
 cases d with
 | non=>rw [show v=.non from h];rfl
 | bl b=>rw [show v=.bl b from h];rfl
 | int b=>rw [show v=.int b from h];rfl
 | str b=>rw [show v=.str b from h];rfl
 | fn x=>unfold Rep at h;obtain ⟨p,rfl,_⟩:=h;rfl
 | ty b=>rw [show v=.ty b from h];rfl
 | tup x=>obtain ⟨p,_,rfl,_⟩:=h.refT;rfl
 | lst x=>obtain ⟨p,_,rfl,_⟩:=h.refL;rfl
 | obj x=>unfold Rep at h;obtain ⟨p,rfl,_⟩:=h;rfl
 | lam x=>unfold Rep at h;obtain ⟨p,rfl,_⟩:=h;rfl
 | clo x y=>unfold Rep at h;obtain ⟨p,_,rfl,_⟩:=h;rfl
theorem op_isB:OpR X (compareOp .Is) (fun x y H Q=>∃i j,x=.bl i∧y=.bl j∧Q (.bl (i == j)) H):=by
 intro pins s σ H x y v u Q I rx ry h
 obtain ⟨i,j,rfl,rfl,q⟩:=h
 cases rx
 cases ry
 exact is_bool ⟨.bl _,H,I,rfl,q⟩
theorem zvr:OpR X (compareOp .IsNot) (fun x y H Q=>∃i j,x=.bl i∧y=.bl j∧Q (.bl (i != j)) H):=by
 intro pins s σ H x y v u Q I rx ry h
 obtain ⟨i,j,rfl,rfl,q⟩:=h
 cases rx
 cases ry
 exact isnot_bool ⟨.bl _,H,I,rfl,q⟩
theorem snd_is:Snd2 K mg (fun x y H Q=>(y=.non∧Q (.bl (decide (x=.non))) H)∨(∃i j,x=.bl i∧y=.bl j∧Q (.bl (i == j)) H)) (fun _=>opIs):=by
 intro ρ H S x y dx dy d Q hS rx ry e k
 replace e:opIs dx dy=some d:=e
 unfold opIs at e
 split at e
 · cases e
   rw [zrm rx] at k
   exact .inl ⟨ry,k _ H (Ext.refl _ _) hS rfl⟩
 · rename_i i j _
   cases e
   exact .inr ⟨_,_,rx,ry,k _ H (Ext.refl _ _) hS rfl⟩
 · cases e
theorem zuu:Snd2 K mg (fun x y H Q=>(y=.non∧Q (.bl (!decide (x=.non))) H)∨(∃i j,x=.bl i∧y=.bl j∧Q (.bl (i != j)) H)) (fun _=>zdr):=by
 intro ρ H S x y dx dy d Q hS rx ry e k
 replace e:zdr dx dy=some d:=e
 unfold zdr at e
 split at e
 · cases e
   rw [zrm rx] at k
   exact .inl ⟨ry,k _ H (Ext.refl _ _) hS rfl⟩
 · rename_i i j _
   cases e
   exact .inr ⟨_,_,rx,ry,k _ H (Ext.refl _ _) hS rfl⟩
 · cases e
theorem zjz (ha:FE X a f) (hb:FE X b g) (hm:behindInMarks .Is b=false:=by exact zee _):FB X (.Compare a [.Is] [b] pos) (bE (e2 opIs f g)):=zhh (op_isN.or op_isB) snd_is ha hb hm
theorem zhw (ha:FE X a f) (hb:FE X b g) (hm:behindInMarks .IsNot b=false:=by exact zee _):FB X (.Compare a [.IsNot] [b] pos) (bE (e2 zdr f g)):=zhh (op_notN.or zvr) zuu ha hb hm

theorem zqc {ρ H ds vs i d} (r:RepL K mg ρ H ds vs) (h:atI ds i=some d):∃v,atI vs i=some v∧Rep K mg ρ H d v:=by
 unfold atI at h ⊢
 rw [← r.length]
 obtain ⟨j,h1,h2⟩:=zaq h
 rw [h1]
 exact r.get h2
theorem snd_ix:Snd2 K mg (rIx K) opIx:=by
 intro ρ H S x y dx dy d Q hS rx ry e k
 unfold opIx at e
 split at e
 · rename_i ds i
   obtain ⟨p,vs,rfl,t,r⟩:=rx.refL
   obtain ⟨v,h1,h2⟩:=zqc r e
   exact .inl ⟨p,vs,i,v,rfl,ry.refI,t.sq,h1,k _ H (Ext.refl _ _) hS h2⟩
 · rename_i ds i
   obtain ⟨p,vs,rfl,t,r⟩:=rx.refT
   obtain ⟨v,h1,h2⟩:=zqc r e
   exact .inr (.inl ⟨p,vs,i,v,rfl,ry.refI,t.sq,h1,k _ H (Ext.refl _ _) hS h2⟩)
 · rename_i z i
   split at e
   · rename_i hz
     obtain ⟨c,h1,e⟩:=mapS e
     cases e
     exact .inr (.inr ⟨z,i,c,rx.refS,ry.refI,hz,h1,k _ H (Ext.refl _ _) hS rfl⟩)
   · cases e
 · rename_i o i
   split at e
   · rename_i ds hd
     unfold Rep at rx
     obtain ⟨p,rfl,hp⟩:=rx
     obtain ⟨vs,h1,r⟩:=hS.ob o _ p hd hp
     obtain ⟨v,h3,h2⟩:=zqc r e
     exact .inl ⟨p,vs,i,v,rfl,ry.refI,SqL.of h1,h3,k _ H (Ext.refl _ _) hS h2⟩
   · cases e
 · cases e
theorem zar (ha:FE X a f) (hb:FE X b g) (hs:PlainIx b:=by exact fun _ _=>rfl):FE X (.Subscript a b pos) (e2s opIx f g):=zbw (pe_ix ix_seq ha hb hs) fun _ _ _ h=>t2 snd_ix h
end
end F
namespace F
open PySem L2 PySem.Spec PyProof.Rows

def eqL (f:D→D→Option Bool):List D→List D→Option Bool
 | x::xs,y::ys=>(f x y).bind fun c=>(eqL f xs ys).map fun r=>c && r
 | [],[]=>some true
 | _,_=>some false
def zmg:D→Option V
 | .non=>some .non
 | .bl b=>some (.bl b)
 | .int i=>some (.int i)
 | .str x=>some (.str x)
 | _=>none
def eqF (a b:D):Option Bool:=match zmg a,zmg b with
 | some x,some y=>some (eqV x y)
 | _,_=>none
def zwg:D→Bool
 | .tup _=>true
 | .lst _=>true
 | _=>false
def eqN:Nat→D→D→Option Bool
 | 0,a,b=>eqF a b
 | n + 1,a,b=>match a,b with
   | .tup xs,.tup ys=>eqL (eqN n) xs ys
   | .lst xs,.lst ys=>if xs.length=ys.length then eqL (eqN n) xs ys else some false
   | .tup _,.lst _=>some false
   | .lst _,.tup _=>some false
   | a,b=>if zwg a=true then (if (zmg b).isSome=true then some false else none)
     else if zwg b=true then (if (zmg a).isSome=true then some false else none)
     else eqF a b
theorem zhy {a b:D}{k:Bool} (h:eqF a b=some k):∃x y,zmg a=some x∧zmg b=some y∧k=eqV x y:=by
 unfold eqF at h
 split at h
 · rename_i x y e1 e2
   exact ⟨x,y,e1,e2,(Option.some.inj h).symm⟩
 · cases h
section
variable {X:Cx}{pins:List (Addr×Obj)}{σ:L2.St}{H:Hp}{s:Shared}{ρ:List Addr}{mg:Str→Option Value}
theorem zcp {K}{d:D}{x v:V} (e:zmg d=some x) (r:Rep K mg ρ H d v):v=x∧zpo x=true:=by
 cases d with
 | non=>cases e;exact ⟨r,rfl⟩
 | bl b=>cases e;exact ⟨r,rfl⟩
 | int i=>cases e;exact ⟨r,rfl⟩
 | str i=>cases e;exact ⟨r,rfl⟩
 | _=>cases e
theorem eqL_len {f:D→D→Option Bool}:∀{xs ys:List D}{k:Bool},eqL f xs ys=some k→xs.length≠ys.length→k=false
 | [],[],_,_,h=>absurd rfl h
 | [],_::_,_,h,_=>by cases h;rfl
 | _::_,[],_,h,_=>by cases h;rfl
 | x::xs,y::ys,k,h,n=>by
   obtain ⟨c,_,h⟩:=zaq h
   obtain ⟨r,h2,h⟩:=mapS h
   have:=eqL_len h2 (fun z=>n (by simp [z]))
   subst this h
   simp
theorem eqL_at {f:D→D→Option Bool}:∀{xs ys:List D}{k:Bool},eqL f xs ys=some k→∀(j:Nat) (x y:D),xs[j]? = some x→ys[j]? = some y→∃c,f x y=some c
 | x::xs,y::ys,k,h,0,_,_,e1,e2=>by
   obtain ⟨c,h1,h⟩:=zaq h
   simp at e1 e2;subst e1 e2
   exact ⟨c,h1⟩
 | x::xs,y::ys,k,h,j + 1,_,_,e1,e2=>by
   obtain ⟨c,h1,h⟩:=zaq h
   obtain ⟨r,h2,h⟩:=mapS h
   exact eqL_at h2 j _ _ (by simpa using e1) (by simpa using e2)
 | [],_,_,_,_,_,_,e1,_=>by simp at e1
 | _::_,[],_,_,_,_,_,_,e2=>by simp at e2
def ansL (f:D→D→Option Bool) (xs ys:List D) (j:Nat):Bool:=match xs[j]?,ys[j]? with
 | some x,some y=>(f x y).getD false
 | _,_=>false
theorem zpq {f:D→D→Option Bool}:∀{xs ys:List D}{k:Bool},eqL f xs ys=some k→xs.length=ys.length→k=(List.range xs.length).all (ansL f xs ys)
 | [],[],_,h,_=>by cases h;rfl
 | x::xs,y::ys,k,h,e=>by
   obtain ⟨c,h1,h⟩:=zaq h
   obtain ⟨r,h2,h⟩:=mapS h
   subst h
   have ih:=zpq h2 (by simpa using e)
   rw [List.length_cons,List.range_succ_eq_map,List.all_cons,List.all_map]
   have e0:ansL f (x::xs) (y::ys) 0=c:=by simp [ansL,h1]
   have e1:((ansL f (x::xs) (y::ys)) ∘ Nat.succ)=ansL f xs ys:=by funext j;simp [ansL]
   rw [e0,e1,← ih]
 | [],_::_,_,_,e=>by simp at e
 | _::_,[],_,_,e=>by simp at e
theorem eqL_ans2 {f:D→D→Option Bool}{xs ys:List D}{k:Bool} (h:eqL f xs ys=some k):k=((List.range (min xs.length ys.length)).all (ansL f xs ys) && xs.length == ys.length):=by
 by_cases e:xs.length=ys.length
 · rw [zpq h e,e];simp
 · rw [eqL_len h e]
   have:(xs.length == ys.length)=false:=by simpa using e
   rw [this];simp
theorem eq_same:∀(n:Nat) {d1 d2:D}{v:V}{k:Bool},Inv X pins σ H s→eqN n d1 d2=some k→Rep X.K mg ρ H d1 v→Rep X.K mg ρ H d2 v→k=true:=by
 intro n
 induction n with
 | zero =>
   intro d1 d2 v k I h r1 r2
   obtain ⟨x,y,e1,e2,rfl⟩:=zhy h
   obtain ⟨rfl,f1⟩:=zcp e1 r1
   obtain ⟨rfl,f2⟩:=zcp e2 r2
   cases v <;> first | (cases f1;done) | (simp [eqV];done)
 | succ n ih =>
   intro d1 d2 v k I h r1 r2
   have lst:∀{xs ys:List D}{vs:List V}{k:Bool},eqL (eqN n) xs ys=some k→RepL X.K mg ρ H xs vs→RepL X.K mg ρ H ys vs→k=true:=by
     intro xs
     induction xs with
     | nil =>
       intro ys vs k h q1 q2
       have l1:=q1.length
       have l2:=q2.length
       cases ys with
       | nil=>cases h;rfl
       | cons _ _=>rw [← l1] at l2;simp at l2
     | cons x xs ihx =>
       intro ys vs k h q1 q2
       cases ys with
       | nil =>
         have l1:=q1.length
         have l2:=q2.length
         rw [← l2] at l1;simp at l1
       | cons y ys =>
         obtain ⟨c,h1,h⟩:=zaq h
         obtain ⟨r,h2,h⟩:=mapS h
         unfold RepL at q1 q2
         obtain ⟨v1,r1,rfl,a1,b1⟩:=q1
         obtain ⟨v2,r2,e,a2,b2⟩:=q2
         cases e
         rw [← h,ih I h1 a1 a2,ihx h2 b1 b2]
         rfl
   unfold eqN at h
   split at h
   · rename_i xs ys
     obtain ⟨p,vs,rfl,t1,q1⟩:=r1.refT
     obtain ⟨p',vs',e,t2,q2⟩:=r2.refT
     cases e
     have:=I.tuple_inj t1.sq t2.sq
     subst this
     exact lst h q1 q2
   · rename_i xs ys
     obtain ⟨p,vs,rfl,t1,q1⟩:=r1.refL
     obtain ⟨p',vs',e,t2,q2⟩:=r2.refL
     cases e
     have:=I.list_inj t1.sq t2.sq
     subst this
     rw [if_pos (by rw [q1.length,q2.length])] at h
     exact lst h q1 q2
   · rename_i xs ys
     obtain ⟨p,vs,rfl,t1,q1⟩:=r1.refT
     obtain ⟨p',vs',e,t2,q2⟩:=r2.refL
     cases e
     obtain ⟨_,_,⟨o,e1,c1,_⟩,_⟩:=I.tuple t1.sq
     obtain ⟨_,_,⟨o',_,e2,c2,_⟩,_⟩:=I.list t2.sq
     rw [e1] at e2;cases e2
     rw [c1] at c2
     exact absurd (Value.type.inj c2) (by decide)
   · rename_i xs ys
     obtain ⟨p,vs,rfl,t1,q1⟩:=r1.refL
     obtain ⟨p',vs',e,t2,q2⟩:=r2.refT
     cases e
     obtain ⟨_,_,⟨o,e1,c1,_⟩,_⟩:=I.tuple t2.sq
     obtain ⟨_,_,⟨o',_,e2,c2,_⟩,_⟩:=I.list t1.sq
     rw [e1] at e2;cases e2
     rw [c1] at c2
     exact absurd (Value.type.inj c2) (by decide)
   · split at h
     · rename_i hs
       split at h
       · rename_i hb
         obtain ⟨y,ey⟩:=Option.isSome_iff_exists.mp hb
         obtain ⟨rfl,f2⟩:=zcp ey r2
         cases d1 with
         | tup _=>obtain ⟨p,_,rfl,_⟩:=r1.refT;cases f2
         | lst _=>obtain ⟨p,_,rfl,_⟩:=r1.refL;cases f2
         | _=>cases hs
       · cases h
     · split at h
       · rename_i hs
         split at h
         · rename_i hb
           obtain ⟨y,ey⟩:=Option.isSome_iff_exists.mp hb
           obtain ⟨rfl,f2⟩:=zcp ey r1
           cases d2 with
           | tup _=>obtain ⟨p,_,rfl,_⟩:=r2.refT;cases f2
           | lst _=>obtain ⟨p,_,rfl,_⟩:=r2.refL;cases f2
           | _=>cases hs
         · cases h
       · obtain ⟨x,y,e1,e2,rfl⟩:=zhy h
         obtain ⟨rfl,f1⟩:=zcp e1 r1
         obtain ⟨rfl,f2⟩:=zcp e2 r2
         cases v <;> first | (cases f1;done) | (simp [eqV];done)
theorem zve {A:Around}{x y:V}{u w:Value} (ru:RelV x u) (rw':RelV y w) (fx:zpo x=true) (fy:zpo y=true):SeqAt.RcAt A s u w (eqV x y):=by
 cases x with
 | non =>
   cases ru
   cases y with
   | non=>cases rw';exact SeqAt.RcAt.none_none
   | bl b=>cases rw';exact SeqAt.RcAt.none_bool b
   | int b=>obtain ⟨t,rfl⟩:=rw';exact SeqAt.RcAt.none_int b t
   | str b=>obtain ⟨t,rfl⟩:=rw';exact SeqAt.RcAt.none_str b t
   | _=>cases fy
 | bl a =>
   cases ru
   cases y with
   | non=>cases rw';exact SeqAt.RcAt.bool_none a
   | bl b=>cases rw';exact SeqAt.RcAt.bool_bool a b
   | int b=>obtain ⟨t,rfl⟩:=rw';exact SeqAt.RcAt.bool_int a b t
   | str b=>obtain ⟨t,rfl⟩:=rw';exact SeqAt.RcAt.bool_str a b t
   | _=>cases fy
 | int a =>
   obtain ⟨t',rfl⟩:=ru
   cases y with
   | non=>cases rw';exact SeqAt.RcAt.int_none a t'
   | bl b=>cases rw';exact SeqAt.RcAt.int_bool a t' b
   | int b=>obtain ⟨t,rfl⟩:=rw';exact SeqAt.RcAt.int_int a t' b t
   | str b=>obtain ⟨t,rfl⟩:=rw';exact SeqAt.RcAt.int_str a t' b t
   | _=>cases fy
 | str a =>
   obtain ⟨t',rfl⟩:=ru
   cases y with
   | non=>cases rw';exact SeqAt.RcAt.str_none a t'
   | bl b=>cases rw';exact SeqAt.RcAt.str_bool a t' b
   | int b=>obtain ⟨t,rfl⟩:=rw';exact SeqAt.RcAt.str_int a t' b t
   | str b=>obtain ⟨t,rfl⟩:=rw';exact SeqAt.RcAt.str_str a t' b t
   | _=>cases fy
 | _=>cases fx
theorem znf {A:Around}{x y:V}{u w:Value} (ru:RelV x u) (rw':RelV y w) (fx:zpo x=true) (fy:zpo y=true):SeqAt.RcNeAt A s u w (!eqV x y):=by
 cases x with
 | non =>
   cases ru
   cases y with
   | non=>cases rw';exact SeqAt.RcNeAt.none_none
   | bl b=>cases rw';exact SeqAt.RcNeAt.none_bool b
   | int b=>obtain ⟨t,rfl⟩:=rw';exact SeqAt.RcNeAt.none_int b t
   | str b=>obtain ⟨t,rfl⟩:=rw';exact SeqAt.RcNeAt.none_str b t
   | _=>cases fy
 | bl a =>
   cases ru
   cases y with
   | non=>cases rw';exact SeqAt.RcNeAt.bool_none a
   | bl b=>cases rw';exact SeqAt.RcNeAt.bool_bool a b
   | int b=>obtain ⟨t,rfl⟩:=rw';exact SeqAt.RcNeAt.bool_int a b t
   | str b=>obtain ⟨t,rfl⟩:=rw';exact SeqAt.RcNeAt.bool_str a b t
   | _=>cases fy
 | int a =>
   obtain ⟨t',rfl⟩:=ru
   cases y with
   | non=>cases rw';exact SeqAt.RcNeAt.int_none a t'
   | bl b=>cases rw';exact SeqAt.RcNeAt.int_bool a t' b
   | int b=>obtain ⟨t,rfl⟩:=rw';exact SeqAt.RcNeAt.int_int a t' b t
   | str b=>obtain ⟨t,rfl⟩:=rw';exact SeqAt.RcNeAt.int_str a t' b t
   | _=>cases fy
 | str a =>
   obtain ⟨t',rfl⟩:=ru
   cases y with
   | non=>cases rw';exact SeqAt.RcNeAt.str_none a t'
   | bl b=>cases rw';exact SeqAt.RcNeAt.str_bool a t' b
   | int b=>obtain ⟨t,rfl⟩:=rw';exact SeqAt.RcNeAt.str_int a t' b t
   | str b=>obtain ⟨t,rfl⟩:=rw';exact SeqAt.RcNeAt.str_str a t' b t
   | _=>cases fy
 | _=>cases fx
theorem zrj {A:Around}{n:Nat}{xs ys:List D}{vs us:List V}{its its2:List Value} (hq:∀{d1 d2:D}{v w:V}{a b:Value}{k:Bool},eqN n d1 d2=some k→Rep X.K mg ρ H d1 v→Rep X.K mg ρ H d2 w→RelV v a→RelV w b→SeqAt.EqAt A s a b k) {k:Bool} (h:eqL (eqN n) xs ys=some k)
   (r1:RepL X.K mg ρ H xs vs) (r2:RepL X.K mg ρ H ys us) (q1:Vals vs its) (q2:Vals us its2) :
   ∀j (h1:j < its.toArray.size) (h2:j < its2.toArray.size),SeqAt.EqAt A s its.toArray[j] its2.toArray[j] (ansL (eqN n) xs ys j):=by
 intro j h1 h2
 have l1:=r1.length
 have l2:=r2.length
 have l3:=q1.length
 have l4:=q2.length
 rw [List.size_toArray] at h1 h2
 have e1:xs[j]? = some xs[j]:=List.getElem?_eq_getElem (by omega)
 have e2:ys[j]? = some ys[j]:=List.getElem?_eq_getElem (by omega)
 obtain ⟨v,ev,rv⟩:=r1.get e1
 obtain ⟨w,ew,rw'⟩:=r2.get e2
 obtain ⟨a,ea,ra⟩:=q1.get ev
 obtain ⟨b,eb,rb⟩:=q2.get ew
 obtain ⟨c,hc⟩:=eqL_at h j _ _ e1 e2
 have z1:its.toArray[j]=a:=by
   rw [List.getElem?_eq_getElem h1] at ea
   simpa using ea
 have z2:its2.toArray[j]=b:=by
   rw [List.getElem?_eq_getElem h2] at eb
   simpa using eb
 have z3:ansL (eqN n) xs ys j=c:=by simp [ansL,e1,e2,hc]
 rw [z1,z2,z3]
 exact hq hc rv rw' ra rb
theorem eq_ok:∀(n:Nat) {A:Around}{d1 d2:D}{v w:V}{a b:Value}{k:Bool},Inv X pins σ H s→A.units + n < cLine→eqN n d1 d2=some k→Rep X.K mg ρ H d1 v→Rep X.K mg ρ H d2 w→RelV v a→RelV w b →
   SeqAt.RcAt A s a b k∧SeqAt.RcNeAt A s a b (!k)∧SeqAt.EqAt A s a b k:=by
 intro n
 induction n with
 | zero =>
   intro A d1 d2 v w a b k I hu h r1 r2 ra rb
   obtain ⟨x,y,e1,e2,rfl⟩:=zhy h
   obtain ⟨rfl,f1⟩:=zcp e1 r1
   obtain ⟨rfl,f2⟩:=zcp e2 r2
   exact ⟨zve ra rb f1 f2,znf ra rb f1 f2,eqAt_V ra rb f1 f2⟩
 | succ n ih =>
   intro A d1 d2 v w a b k I hu h r1 r2 ra rb
   have hs:∀{u:V},Rep X.K mg ρ H d1 u→Rep X.K mg ρ H d2 u→k=true:=fun a b=>eq_same (n + 1) I h a b
   have hin:A.in1.units + n < cLine:=by show A.units + 1 + n < cLine;omega
   have hu0:A.units < cLine:=by omega
   have same:∀{p q:Addr},v=.ref p→w=.ref q→SeqAt.RcAt A s (.ref p) (.ref q) k→SeqAt.EqAt A s a b k:=by
     intro p q e1 e2 rc
     subst e1 e2
     cases ra
     cases rb
     by_cases hpq:p=q
     · subst hpq
       rw [hs r1 r2]
       exact SeqAt.EqAt.same _
     · exact SeqAt.EqAt.of_refs hpq rc
   unfold eqN at h
   split at h
   · rename_i xs ys
     obtain ⟨p,vs,rfl,t1,q1⟩:=r1.refT
     obtain ⟨p',us,rfl,t2,q2⟩:=r2.refT
     cases ra
     cases rb
     obtain ⟨its,z1,pt1,_⟩:=I.tuple t1.sq
     obtain ⟨its2,z2,pt2,_⟩:=I.tuple t2.sq
     have hit:=zrj (A:=A.in1) (s:=s) (fun e a1 a2 a3 a4=>(ih I hin e a1 a2 a3 a4).2.2) h q1 q2 z1 z2
     have l1:=q1.length
     have l2:=q2.length
     have l3:=z1.length
     have l4:=z2.length
     have ek:k=((List.range (min its.toArray.size its2.toArray.size)).all (ansL (eqN n) xs ys) && its.toArray.size == its2.toArray.size):=by
       rw [List.size_toArray,List.size_toArray,← l3,← l4,← l1,← l2]
       exact eqL_ans2 h
     have rc:=SeqAt.RcAt.tuples (A:=A) (s:=s) pt1 pt2 hu0 hit
     have rn:=SeqAt.RcNeAt.tuples (A:=A) (s:=s) pt1 pt2 hu0 hit
     rw [← ek] at rc
     refine ⟨rc,?_,same rfl rfl rc⟩
     rw [ek]
     exact rn
   · rename_i xs ys
     obtain ⟨p,vs,rfl,t1,q1⟩:=r1.refL
     obtain ⟨p',us,rfl,t2,q2⟩:=r2.refL
     cases ra
     cases rb
     obtain ⟨its,z1,pt1,_⟩:=I.list t1.sq
     obtain ⟨its2,z2,pt2,_⟩:=I.list t2.sq
     have l1:=q1.length
     have l2:=q2.length
     have l3:=z1.length
     have l4:=z2.length
     split at h
     · rename_i hl
       have hit:=zrj (A:=A.in1) (s:=s) (fun e a1 a2 a3 a4=>(ih I hin e a1 a2 a3 a4).2.2) h q1 q2 z1 z2
       have hsz:its.toArray.size=its2.toArray.size:=by rw [List.size_toArray,List.size_toArray];omega
       have ek:k=(List.range its.toArray.size).all (ansL (eqN n) xs ys):=by
         rw [List.size_toArray,← l3,← l1]
         exact zpq h hl
       have rc:=SeqAt.RcAt.lists (A:=A) (s:=s) pt1.isList pt2.isList hsz hu0 hit
       have rn:=SeqAt.RcNeAt.lists (A:=A) (s:=s) pt1.isList pt2.isList hsz hu0 hit
       rw [← ek] at rc
       refine ⟨rc,?_,same rfl rfl rc⟩
       rw [ek]
       exact rn
     · rename_i hl
       cases h
       have hsz:(its.toArray.size != its2.toArray.size)=true:=by rw [List.size_toArray,List.size_toArray];simp;omega
       have rc:=SeqAt.RcAt.lists_lengths (A:=A) (s:=s) pt1.isList pt2.isList hsz hu0
       have rn:=SeqAt.RcNeAt.lists_lengths (A:=A) (s:=s) pt1.isList pt2.isList hsz hu0
       exact ⟨rc,rn,same rfl rfl rc⟩
   · rename_i xs ys
     cases h
     obtain ⟨p,vs,rfl,t1,q1⟩:=r1.refT
     obtain ⟨p',us,rfl,t2,q2⟩:=r2.refL
     cases ra
     cases rb
     obtain ⟨its,z1,pt1,_⟩:=I.tuple t1.sq
     obtain ⟨its2,z2,pt2,_⟩:=I.list t2.sq
     exact ⟨SeqAt.RcAt.tuple_list pt1 pt2.isList hu0,SeqAt.RcNeAt.tuple_list pt1 pt2.isList hu0,SeqAt.EqAt.tuple_list pt1 pt2.isList hu0⟩
   · rename_i xs ys
     cases h
     obtain ⟨p,vs,rfl,t1,q1⟩:=r1.refL
     obtain ⟨p',us,rfl,t2,q2⟩:=r2.refT
     cases ra
     cases rb
     obtain ⟨its,z1,pt1,_⟩:=I.list t1.sq
     obtain ⟨its2,z2,pt2,_⟩:=I.tuple t2.sq
     exact ⟨SeqAt.RcAt.list_tuple pt1.isList pt2 hu0,SeqAt.RcNeAt.list_tuple pt1.isList pt2 hu0,SeqAt.EqAt.list_tuple pt1.isList pt2 hu0⟩
   · split at h
     · rename_i hsq
       split at h
       · rename_i hb
         cases h
         obtain ⟨y,ey⟩:=Option.isSome_iff_exists.mp hb
         obtain ⟨rfl,f2⟩:=zcp ey r2
         cases d1 with
         | tup _ =>
           obtain ⟨p,vs,rfl,t1,q1⟩:=r1.refT
           cases ra
           obtain ⟨its,z1,pt,_⟩:=I.tuple t1.sq
           cases w with
           | non=>cases rb;exact ⟨SeqAt.RcAt.tuple_none pt hu0,SeqAt.RcNeAt.tuple_none pt hu0,SeqAt.EqAt.tuple_none pt hu0⟩
           | bl c=>cases rb;exact ⟨SeqAt.RcAt.tuple_bool c pt hu0,SeqAt.RcNeAt.tuple_bool c pt hu0,SeqAt.EqAt.tuple_bool c pt hu0⟩
           | int c=>obtain ⟨t,rfl⟩:=rb;exact ⟨SeqAt.RcAt.tuple_int c t pt hu0,SeqAt.RcNeAt.tuple_int c t pt hu0,SeqAt.EqAt.tuple_int c t pt hu0⟩
           | str c=>obtain ⟨t,rfl⟩:=rb;exact ⟨SeqAt.RcAt.tuple_str c t pt hu0,SeqAt.RcNeAt.tuple_str c t pt hu0,SeqAt.EqAt.tuple_str c t pt hu0⟩
           | _=>cases f2
         | lst _ =>
           obtain ⟨p,vs,rfl,t1,q1⟩:=r1.refL
           cases ra
           obtain ⟨its,z1,pl,_⟩:=I.list t1.sq
           have pt:=pl.isList
           cases w with
           | non=>cases rb;exact ⟨SeqAt.RcAt.list_none pt hu0,SeqAt.RcNeAt.list_none pt hu0,SeqAt.EqAt.list_none pt hu0⟩
           | bl c=>cases rb;exact ⟨SeqAt.RcAt.list_bool c pt hu0,SeqAt.RcNeAt.list_bool c pt hu0,SeqAt.EqAt.list_bool c pt hu0⟩
           | int c=>obtain ⟨t,rfl⟩:=rb;exact ⟨SeqAt.RcAt.list_int c t pt hu0,SeqAt.RcNeAt.list_int c t pt hu0,SeqAt.EqAt.list_int c t pt hu0⟩
           | str c=>obtain ⟨t,rfl⟩:=rb;exact ⟨SeqAt.RcAt.list_str c t pt hu0,SeqAt.RcNeAt.list_str c t pt hu0,SeqAt.EqAt.list_str c t pt hu0⟩
           | _=>cases f2
         | _=>cases hsq
       · cases h
     · split at h
       · rename_i hsq
         split at h
         · rename_i hb
           cases h
           obtain ⟨y,ey⟩:=Option.isSome_iff_exists.mp hb
           obtain ⟨rfl,f2⟩:=zcp ey r1
           cases d2 with
           | tup _ =>
             obtain ⟨p,vs,rfl,t1,q1⟩:=r2.refT
             cases rb
             obtain ⟨its,z1,pt,_⟩:=I.tuple t1.sq
             cases v with
             | non=>cases ra;exact ⟨SeqAt.RcAt.none_tuple pt hu0,SeqAt.RcNeAt.none_tuple pt hu0,SeqAt.EqAt.none_tuple pt hu0⟩
             | bl c=>cases ra;exact ⟨SeqAt.RcAt.bool_tuple c pt hu0,SeqAt.RcNeAt.bool_tuple c pt hu0,SeqAt.EqAt.bool_tuple c pt hu0⟩
             | int c=>obtain ⟨t,rfl⟩:=ra;exact ⟨SeqAt.RcAt.int_tuple c t pt hu0,SeqAt.RcNeAt.int_tuple c t pt hu0,SeqAt.EqAt.int_tuple c t pt hu0⟩
             | str c=>obtain ⟨t,rfl⟩:=ra;exact ⟨SeqAt.RcAt.str_tuple c t pt hu0,SeqAt.RcNeAt.str_tuple c t pt hu0,SeqAt.EqAt.str_tuple c t pt hu0⟩
             | _=>cases f2
           | lst _ =>
             obtain ⟨p,vs,rfl,t1,q1⟩:=r2.refL
             cases rb
             obtain ⟨its,z1,pl,_⟩:=I.list t1.sq
             have pt:=pl.isList
             cases v with
             | non=>cases ra;exact ⟨SeqAt.RcAt.none_list pt hu0,SeqAt.RcNeAt.none_list pt hu0,SeqAt.EqAt.none_list pt hu0⟩
             | bl c=>cases ra;exact ⟨SeqAt.RcAt.bool_list c pt hu0,SeqAt.RcNeAt.bool_list c pt hu0,SeqAt.EqAt.bool_list c pt hu0⟩
             | int c=>obtain ⟨t,rfl⟩:=ra;exact ⟨SeqAt.RcAt.int_list c t pt hu0,SeqAt.RcNeAt.int_list c t pt hu0,SeqAt.EqAt.int_list c t pt hu0⟩
             | str c=>obtain ⟨t,rfl⟩:=ra;exact ⟨SeqAt.RcAt.str_list c t pt hu0,SeqAt.RcNeAt.str_list c t pt hu0,SeqAt.EqAt.str_list c t pt hu0⟩
             | _=>cases f2
           | _=>cases hsq
         · cases h
       · obtain ⟨x,y,e1,e2,rfl⟩:=zhy h
         obtain ⟨rfl,f1⟩:=zcp e1 r1
         obtain ⟨rfl,f2⟩:=zcp e2 r2
         exact ⟨zve ra rb f1 f2,znf ra rb f1 f2,eqAt_V ra rb f1 f2⟩
end
def opEq (a b:D):Option D:=(eqN 150 a b).map D.bl
def opNe (a b:D):Option D:=(eqN 150 a b).map fun k=>D.bl !k
section
variable {X:Cx}{a b:Expr}{f g:E}{pos:Pos}
def rEqD (K:PySem.W.Frag) (mg:Str→Option Value) (neg:Bool):R2:=fun x y H Q=>∃(ρ:List Addr) (d1 d2:D) (k:Bool),Rep K mg ρ H d1 x∧Rep K mg ρ H d2 y∧eqN 150 d1 d2=some k∧Q (.bl (if neg then !k else k)) H
theorem op_eqD (hu:X.A.units + 150 < cLine):OpR X (compareOp .Eq) (rEqD X.K X.mg false):=by
 intro pins s σ H x y v u Q I rx ry h
 obtain ⟨ρ,d1,d2,k,h1,h2,h3,q⟩:=h
 exact (eq_ok 150 I hu h3 h1 h2 rx ry).1 _ _ _ _ ⟨.bl k,H,I,rfl,q⟩
theorem op_neD (hu:X.A.units + 150 < cLine):OpR X (compareOp .NotEq) (rEqD X.K X.mg true):=by
 intro pins s σ H x y v u Q I rx ry h
 obtain ⟨ρ,d1,d2,k,h1,h2,h3,q⟩:=h
 exact (eq_ok 150 I hu h3 h1 h2 rx ry).2.1 _ _ _ _ ⟨.bl (!k),H,I,rfl,q⟩
theorem zuv {K mg}:Snd2 K mg (rEqD K mg false) (fun _=>opEq):=by
 intro ρ H S x y dx dy d Q hS rx ry e k
 obtain ⟨c,e1,e⟩:=mapS e
 subst e
 exact ⟨ρ,dx,dy,c,rx,ry,e1,k _ H (Ext.refl _ _) hS rfl⟩
theorem zut {K mg}:Snd2 K mg (rEqD K mg true) (fun _=>opNe):=by
 intro ρ H S x y dx dy d Q hS rx ry e k
 obtain ⟨c,e1,e⟩:=mapS e
 subst e
 exact ⟨ρ,dx,dy,c,rx,ry,e1,k _ H (Ext.refl _ _) hS rfl⟩
theorem fe_eq {k:Nat} (hr:Room k X.A) (ha:FE X a f) (hb:FE X b g) (hm:behindInMarks .Eq b=false:=by exact zee _):FE X (.Compare a [.Eq] [b] pos) (e2 opEq f g):=znw (op_eqD (by have:=hr.un;omega)) zuv ha hb hm
theorem fe_ne {k:Nat} (hr:Room k X.A) (ha:FE X a f) (hb:FE X b g) (hm:behindInMarks .NotEq b=false:=by exact zee _):FE X (.Compare a [.NotEq] [b] pos) (e2 opNe f g):=znw (op_neD (by have:=hr.un;omega)) zut ha hb hm
theorem zfb {k:Nat} (hr:Room k X.A) (ha:FE X a f) (hb:FE X b g) (hm:behindInMarks .Eq b=false:=by exact zee _):FB X (.Compare a [.Eq] [b] pos) (bE (e2 opEq f g)):=zhh (op_eqD (by have:=hr.un;omega)) zuv ha hb hm
theorem fb_ne {k:Nat} (hr:Room k X.A) (ha:FE X a f) (hb:FE X b g) (hm:behindInMarks .NotEq b=false:=by exact zee _):FB X (.Compare a [.NotEq] [b] pos) (bE (e2 opNe f g)):=zhh (op_neD (by have:=hr.un;omega)) zut ha hb hm
end
end F
namespace F
open PySem L2 PySem.Spec PyProof.Rows

def lenD (S:Sto):List D→Option D
 | [.lst ds]=>some (.int ds.length)
 | [.tup ds]=>some (.int ds.length)
 | [.str z]=>if z.length≤sizeLine then some (.int z.length) else none
 | [.obj a]=>(match S[a]? with
   | some (.lst ds)=>some (.int ds.length)
   | _=>none)
 | _=>none
def absD (_:Sto):List D→Option D
 | [.int i]=>some (.int (if i < 0 then -i else i))
 | _=>none
def maxD (_:Sto):List D→Option D
 | [.int i,.int j]=>some (.int (if j > i then j else i))
 | _=>none
inductive Ty where
 | non | bl | int | str | tup | lst
 deriving DecidableEq
def Ty.name:Ty→String
 | .non=>"NoneType" | .bl=>"bool" | .int=>"int" | .str=>"str" | .tup=>"tuple" | .lst=>"list"
def tyD (S:Sto):D→Option Ty
 | .non=>some .non
 | .bl _=>some .bl
 | .int _=>some .int
 | .str _=>some .str
 | .tup _=>some .tup
 | .lst _=>some .lst
 | .obj a=>(match S[a]? with
   | some (.lst _)=>some .lst
   | _=>none)
 | _=>none
def isT (t c:Ty):Bool:=decide (t=c) || (decide (t=.bl) && decide (c=.int))
def tyOf?:String→Option Ty
 | "bool"=>some .bl | "int"=>some .int | "str"=>some .str | "tuple"=>some .tup | "list"=>some .lst | _=>none
def isiD (S:Sto):List D→Option D
 | [d,.ty n]=>(tyOf? n).bind fun c=>(tyD S d).map fun t=>.bl (isT t c)
 | _=>none
section
variable {X:Cx}{K:PySem.W.Frag}{mg:Str→Option Value}
theorem one {ρ H d xs} (r:RepL K mg ρ H [d] xs):∃v,xs=[v]∧Rep K mg ρ H d v:=by
 unfold RepL at r
 obtain ⟨v,t,rfl,h1,h2⟩:=r
 unfold RepL at h2
 subst h2
 exact ⟨v,rfl,h1⟩
theorem two {ρ H d e xs} (r:RepL K mg ρ H [d,e] xs):∃v w,xs=[v,w]∧Rep K mg ρ H d v∧Rep K mg ρ H e w:=by
 unfold RepL at r
 obtain ⟨v,t,rfl,h1,h2⟩:=r
 obtain ⟨w,rfl,h3⟩:=one h2
 exact ⟨v,w,rfl,h1,h3⟩
theorem snd_len:SndA K mg (fun xs H Q=>(∃p ys,xs=[.ref p]∧(SqL K H p ys∨SqT K H p ys)∧Q (.int ys.length) H)∨(∃z,xs=[.str z]∧z.length≤sizeLine∧Q (.int z.length) H)) lenD:=by
 intro ρ H S xs ds d Q hS r e k
 unfold lenD at e
 split at e
 · cases e
   replace r:=one r
   obtain ⟨v,rfl,r⟩:=r
   obtain ⟨p,vs,rfl,t,r⟩:=r.refL
   exact .inl ⟨p,vs,rfl,.inl t.sq,by rw [← r.length];exact k _ H (Ext.refl _ _) hS rfl⟩
 · cases e
   replace r:=one r
   obtain ⟨v,rfl,r⟩:=r
   obtain ⟨p,vs,rfl,t,r⟩:=r.refT
   exact .inl ⟨p,vs,rfl,.inr t.sq,by rw [← r.length];exact k _ H (Ext.refl _ _) hS rfl⟩
 · split at e
   · rename_i hz
     cases e
     replace r:=one r
     obtain ⟨v,rfl,r⟩:=r
     rw [r.refS]
     exact .inr ⟨_,rfl,hz,k _ H (Ext.refl _ _) hS rfl⟩
   · cases e
 · split at e
   · rename_i ds hd
     cases e
     replace r:=one r
     obtain ⟨v,rfl,r⟩:=r
     unfold Rep at r
     obtain ⟨p,rfl,hp⟩:=r
     obtain ⟨vs,h1,r⟩:=hS.ob _ _ p hd hp
     exact .inl ⟨p,vs,rfl,.inl (SqL.of h1),by rw [← r.length];exact k _ H (Ext.refl _ _) hS rfl⟩
   · cases e
 · cases e
variable {e:Expr}{es:List Expr}{p pos:Pos}{g:As}
theorem zgl (hm:X.mg "len"=none) (ha:FA X [e] g) (hg:Gl X "len":=by rfl) (he:starEach [e] X.env=(false,eval e X.env)::starEach [] X.env:=by exact zay rfl) (hpl:(backTo pos (starEach [] X.env)).any (·.1)=false:=by exact zca rfl):FE X (.Call (.Name "len" p) [e] [] pos) (eA lenD g) :=
 zrs (call_len_seq.or zoj) snd_len hm PySem.boot_len ha hg (by decide) (by decide) he hpl
theorem snd_abs:SndA K mg (fun xs H Q=>∃i,xs=[.int i]∧Q (.int (if i < 0 then -i else i)) H) absD:=by
 intro ρ H S xs ds d Q hS r e k
 unfold absD at e
 split at e
 · cases e
   replace r:=one r
   obtain ⟨v,rfl,r⟩:=r
   rw [r.refI]
   exact ⟨_,rfl,k _ H (Ext.refl _ _) hS rfl⟩
 · cases e
theorem fe_abs (hm:X.mg "abs"=none) (ha:FA X [e] g) (hg:Gl X "abs":=by rfl) (he:starEach [e] X.env=(false,eval e X.env)::starEach [] X.env:=by exact zay rfl) (hpl:(backTo pos (starEach [] X.env)).any (·.1)=false:=by exact zca rfl):FE X (.Call (.Name "abs" p) [e] [] pos) (eA absD g) :=
 zrs call_abs snd_abs hm (by with_unfolding_all rfl) ha hg (by decide) (by decide) he hpl
theorem snd_max:SndA K mg (fun xs H Q=>∃i j,xs=[.int i,.int j]∧Q (.int (if j > i then j else i)) H) maxD:=by
 intro ρ H S xs ds d Q hS r e k
 unfold maxD at e
 split at e
 · cases e
   replace r:=two r
   obtain ⟨v,w,rfl,r1,r2⟩:=r
   rw [r1.refI,r2.refI]
   exact ⟨_,_,rfl,k _ H (Ext.refl _ _) hS rfl⟩
 · cases e
theorem fe_max (hm:X.mg "max"=none) (ha:FA X (e::es) g) (hc:X.calm=true:=by rfl) (hg:Gl X "max":=by rfl) (he:starEach (e::es) X.env=(false,eval e X.env)::starEach es X.env:=by exact zay rfl) (hpl:(backTo pos (starEach es X.env)).any (·.1)=false:=by exact zca rfl):FE X (.Call (.Name "max" p) (e::es) [] pos) (eA maxD g) :=
 zrs (call_max2 hc) snd_max hm (by with_unfolding_all rfl) ha hg (by decide) (by decide) he hpl
theorem zxc {x:Str} (n:String) (hm:X.mg x=none) (hv:bootBuiltins x=some (.type n)) (hg:Gl X x:=by rfl) (hn:x≠"__name__":=by decide) (hd:(x == ("__debug__":Str))=false:=by decide):FE X (.Name x pos) (eK (.ty n)) :=
 zfp (pe_bltn (v:=.ty n) hg hm hv rfl hn hd) fun _ _=>rfl
theorem zwd:∀(t c:Ty),c≠.non→PySem.W.kitOne K (.type t.name) (.type c.name)=some (isT t c):=by
 intro t c hc
 cases t <;> cases c <;> first | exact absurd rfl hc | rfl | (with_unfolding_all rfl)
theorem zue {n:String}{c:Ty} (h:tyOf? n=some c):n=c.name∧c≠.non:=by
 unfold tyOf? at h
 split at h <;> first | (cases h;exact ⟨rfl,by decide⟩) | cases h
def rIsi (K:PySem.W.Frag):List V→Hp→VK→Prop:=fun xs H Q=>∃(x:V) (t c:Ty),xs=[x,.ty c.name]∧c≠.non ∧
 (TyOf K H x (.type t.name)∨(t=.tup∧∃p ys,x=.ref p∧SqT K H p ys)∨(t=.lst∧∃p ys,x=.ref p∧SqL K H p ys))∧Q (.bl (isT t c)) H
theorem call_isi:CallR X (.builtin "isinstance") (rIsi X.K):=by
 intro pins s σ H xs us Q I r h
 obtain ⟨x,t,c,rfl,hc,ht,q⟩:=h
 obtain ⟨u1,u2,rfl,r1,r2⟩:∃u1 u2,us=[u1,u2]∧RelV x u1∧RelV (.ty c.name) u2:=by
   cases r with
   | cons p q =>
     cases q with
     | cons p' q'=>cases q';exact ⟨_,_,rfl,p,p'⟩
 cases r2
 rcases ht with ht | ⟨rfl,p,ys,rfl,hp⟩ | ⟨rfl,p,ys,rfl,hp⟩
 · exact zwf I r1 ht (zwd t c hc) fun tk=>⟨.bl _,H,I.tok tk,rfl,q⟩
 · cases r1
   obtain ⟨its,_,⟨o,h1,h2,_⟩,_⟩:=I.tuple hp
   exact PySem.W.kia_one PySem.W.kitx_tuple I.kIn ⟨o,h1,h2⟩ (zwd .tup c hc) (fun z=>nomatch z) fun tk=>⟨.bl _,H,I.tok tk,rfl,q⟩
 · cases r1
   obtain ⟨its,_,⟨o,n,h1,h2,_,_⟩,_⟩:=I.list hp
   exact PySem.W.kia_one PySem.W.kitx_list I.kIn ⟨o,h1,h2⟩ (zwd .lst c hc) (fun z=>nomatch z) fun tk=>⟨.bl _,H,I.tok tk,rfl,q⟩
theorem snd_isi:SndA K mg (rIsi K) isiD:=by
 intro ρ H S xs ds d Q hS r e k
 unfold isiD at e
 split at e
 · rename_i d' n
   obtain ⟨c,hc,e⟩:=zaq e
   obtain ⟨t,ht,e⟩:=mapS e
   subst e
   obtain ⟨rfl,hn⟩:=zue hc
   replace r:=two r
   obtain ⟨v,w,rfl,r1,r2⟩:=r
   have r2:w=.ty _:=r2
   subst r2
   refine ⟨v,t,c,rfl,hn,?_,k _ H (Ext.refl _ _) hS rfl⟩
   unfold tyD at ht
   split at ht
   · cases ht;rw [show v=.non from r1];exact .inl .non
   · cases ht;rw [show v=.bl _ from r1];exact .inl (.bl _)
   · cases ht;rw [show v=.int _ from r1];exact .inl (.int _)
   · cases ht;rw [show v=.str _ from r1];exact .inl (.str _)
   · cases ht
     obtain ⟨p,vs,rfl,tt,_⟩:=r1.refT
     exact .inr (.inl ⟨rfl,p,vs,rfl,tt.sq⟩)
   · cases ht
     obtain ⟨p,vs,rfl,tt,_⟩:=r1.refL
     exact .inr (.inr ⟨rfl,p,vs,rfl,tt.sq⟩)
   · split at ht
     · rename_i ds hd
       cases ht
       unfold Rep at r1
       obtain ⟨p,rfl,hp⟩:=r1
       obtain ⟨vs,h1,_⟩:=hS.ob _ _ p hd hp
       exact .inr (.inr ⟨rfl,p,vs,rfl,SqL.of h1⟩)
     · cases ht
   · cases ht
 · cases e
theorem zxa (hm:X.mg "isinstance"=none) (ha:FA X (e::es) g) (hg:Gl X "isinstance":=by rfl) (he:starEach (e::es) X.env=(false,eval e X.env)::starEach es X.env:=by exact zay rfl) (hpl:(backTo pos (starEach es X.env)).any (·.1)=false:=by exact zca rfl):FE X (.Call (.Name "isinstance" p) (e::es) [] pos) (eA isiD g) :=
 zrs call_isi snd_isi hm (by with_unfolding_all rfl) ha hg (by decide) (by decide) he hpl

def cutD (xs:List D) (lo hi:Option Int):List D:=(xs.drop (HT.sIx xs.length 0 lo)).take (HT.sIx xs.length xs.length hi - HT.sIx xs.length 0 lo)
def opSl:D→Option Int→Option Int→Option D
 | .lst ds,lo,hi=>some (.lst (cutD ds lo hi))
 | .tup ds,lo,hi=>if HT.sIx ds.length 0 lo=0∧HT.sIx ds.length ds.length hi=ds.length then none else some (.tup (cutD ds lo hi))
 | _,_,_=>none
abbrev Pt:=Ev→Sto→Option (Option Int×Sto)
def pN:Pt:=fun _ S=>some (none,S)
def pE (f:E):Pt:=fun ev S=>(f ev S).bind fun p=>match p.1 with
 | .int i=>some (some i,p.2)
 | _=>none
def eSl (f:E) (a b:Pt):E:=fun ev S=>(f ev S).bind fun p=>(a ev p.2).bind fun q=>(b ev q.2).bind fun r=>(opSl p.1 q.1 r.1).map fun d=>(d,r.2)
def tPt (K:PySem.W.Frag) (mg:Str→Option Value) (f:Pt):TO:=fun σ H Q=>∃ρ ev S o S',EnvR K mg ρ H ev σ∧StOk K mg ρ H S∧f ev S=some (o,S')∧∀ρ' H',Ext ρ H ρ' H'→StOk K mg ρ' H' S'→Q o H'
def FPt (X:Cx) (e:Option Expr) (f:Pt):Prop:=PO X e (tPt X.K X.mg f)
theorem zvm {e:Option Expr}{t t':TO} (h:PO X e t) (m:∀σ H Q,t' σ H Q→t σ H Q):PO X e t':=fun pins s σ H Q I q=>h pins s σ H Q I (m _ _ _ q)
theorem zhd:FPt X none pN:=zvm po_none fun σ H Q h=>by
 obtain ⟨ρ,ev,S,o,S',hE,hS,hf,k⟩:=h
 cases hf
 exact k ρ H (Ext.refl _ _) hS
theorem zfa {f:E} (h:FE X e f):FPt X (some e) (pE f):=zvm (po_some h) fun σ H Q h=>by
 obtain ⟨ρ,ev,S,o,S',hE,hS,hf,k⟩:=h
 obtain ⟨⟨x,S1⟩,q1,hf⟩:=zaq hf
 cases x with
 | int i =>
   cases hf
   exact ⟨ρ,ev,S,_,_,hE,hS,q1,fun v ρ1 H1 E1 hS1 r1=>⟨i,r1,k ρ1 H1 E1 hS1⟩⟩
 | _=>cases hf
theorem cut_rep {ρ H ds vs} (r:RepL K mg ρ H ds vs) (lo hi:Option Int):RepL K mg ρ H (cutD ds lo hi) (cutV vs lo hi):=by
 unfold cutD cutV
 rw [r.length]
 exact (r.drop _).take _
theorem zfo {a:Expr}{lo hi:Option Expr}{f:E}{u w:Pt}{p2:Pos} (ha:FE X a f) (hl:FPt X lo u) (hh:FPt X hi w):FE X (.Subscript a (.Slice lo hi none p2) pos) (eSl f u w) :=
 zbw (zqy (sl_list.or sl_tup) ha hl hh) fun σ H Q h=>by
   obtain ⟨ρ,ev,S,d,S',hE,hS,hf,k⟩:=h
   obtain ⟨⟨x,S1⟩,q1,hf⟩:=zaq hf
   obtain ⟨⟨lo,S2⟩,q2,hf⟩:=zaq hf
   obtain ⟨⟨hi,S3⟩,q3,hf⟩:=zaq hf
   obtain ⟨z,q4,hf⟩:=mapS hf
   cases hf
   refine ⟨ρ,ev,S,x,S1,hE,hS,q1,fun v ρ1 H1 E1 hS1 r1=>⟨ρ1,ev,S1,lo,S2,hE.mono E1,hS1,q2,fun ρ2 H2 E2 hS2=>⟨ρ2,ev,S2,hi,_,(hE.mono E1).mono E2,hS2,q3,fun ρ3 H3 E3 hS3=>?_⟩⟩⟩
   have r3:=(r1.mono E2).mono E3
   have E:=(E1.trans E2).trans E3
   cases x with
   | lst ds =>
     cases q4
     obtain ⟨p,vs,rfl,t,r⟩:=r3.refL
     exact .inl ⟨p,vs,rfl,t.sq,fun b hb=>k _ _ _ (E.trans (zbv hS3 _ hb)) (hS3.new _ hb) (Rep.lst (s:=hS3) hb (cut_rep r lo hi))⟩
   | tup ds =>
     replace q4:(if HT.sIx ds.length 0 lo=0∧HT.sIx ds.length ds.length hi=ds.length then none else some (D.tup (cutD ds lo hi)))=some d:=q4
     split at q4
     · cases q4
     · rename_i hn
       cases q4
       obtain ⟨p,vs,rfl,t,r⟩:=r3.refT
       exact .inr ⟨p,vs,rfl,t.sq,by rw [← r.length];exact hn,fun b hb=>k _ _ _ (E.trans (zbv hS3 _ hb)) (hS3.new _ hb) (Rep.tup (s:=hS3) hb (cut_rep r lo hi))⟩
   | _=>cases q4
theorem znu {o:Expr}{f h:E}{apos spos:Pos} (ho:FE X o f) (hv:FE X e h)
   (hbase:attributeBase o "append" X.env (eval o X.env)=eval o X.env:=by rfl)
   (hfew:((backTo pos (starEach [e] X.env)).all (fun x=>!x.1) && (backToKw pos (keywordEach [] X.env)).all (fun x=>x.1.isSome)
     && decide ([e].length + ([]:List Keyword).length + (if ([]:List Keyword).isEmpty then 0 else 1) < 30))=true:=by rfl)
   (hline:(apos.endLine == pos.line)=true:=by rfl) (hs:starEach [e] X.env=(false,eval e X.env)::starEach [] X.env:=by exact zay rfl) (hplain:(backTo pos (starEach [] X.env)).any (·.1)=false:=by exact zca rfl)
   (hsw:swapsWith (.Call (.Attribute o "append" apos) [e] [] pos) none spos.line X.env=pure false:=by rfl) :
   FS X (.Expr (.Call (.Attribute o "append" apos) [e] [] pos) spos) (zgy f h) :=
 zea (zvk (pe_bm PySem.F.plainAttrs_list PySem.F.slot_list_append PySem.F.type_list_append zvw ho (zaa hv zad hs) hbase hfew hline hs hplain) hsw) fun σ H D h=>by
   obtain ⟨ρ,ev,S,o,S',hE,hS,hf,k⟩:=h
   obtain ⟨⟨x,S1⟩,q1,hf⟩:=zaq hf
   cases x with
   | obj a =>
     dsimp only at hf
     split at hf
     · rename_i ds0 hd0
       obtain ⟨⟨y,S2⟩,q2,hf⟩:=zaq hf
       dsimp only at hf
       split at hf
       · rename_i ds hd
         split at hf
         · rename_i hl
           cases hf
           refine ⟨ρ,ev,S,_,S1,hE,hS,q1,fun v ρ1 H1 E1 hS1 r1=>?_⟩
           have r1':=r1
           unfold Rep at r1'
           obtain ⟨p,rfl,hp⟩:=r1'
           obtain ⟨us0,hu0,_⟩:=hS1.ob a _ p hd0 hp
           refine ⟨.inl ⟨rfl,_,SqL.of hu0⟩,ρ1,ev,S1,[y],S2,hE.mono E1,hS1,by simp only [aC,aN,q2,Option.bind_some],fun vs ρ2 H2 E2 hS2 r2=>?_⟩
           obtain ⟨w,rfl,r3⟩:=one r2
           have hp2:=E2.pre _ _ hp
           obtain ⟨us,h2,h3⟩:=hS2.ob a _ p hd hp2
           have e0:=zpp hS2 (.lst (us++[w])) hp2
           refine ⟨p,us,w,rfl,rfl,h2,by rw [← h3.length];exact hl,?_⟩
           refine k σ ρ2 _ ((E1.trans E2).trans e0) (hS2.set hp2 ⟨_,zbj,?_⟩) (((hE.mono E1).mono E2).mono e0)
           exact (h3.append (RepL.cons r3 RepL.nil)).mono e0
         · cases hf
       · cases hf
     · cases hf
   | _=>cases hf
theorem zol:bootBuiltins "list"=some (.type "list"):=by with_unfolding_all rfl
theorem boot_int:bootBuiltins "int"=some (.type "int"):=by with_unfolding_all rfl
theorem boot_bool:bootBuiltins "bool"=some (.type "bool"):=by with_unfolding_all rfl
end
end F
namespace F
open PySem L2 PySem.Spec PyProof.Rows

def dflt (n:Nat) (g:G):G:=fun ds S=>g (ds++List.replicate n .non) S
def DfOk (K:PySem.W.Frag) (dV:Value):Nat→Prop
 | 0=>dV=.none
 | n + 1=>∃(T:Addr) (o:Obj) (m:Nat),dV=.ref T∧K.lookup T=some o∧o.data=.seq (Array.replicate (n + 1) Value.none) m
structure HasDef (K:PySem.W.Frag) (mg:Str→Option Value) (x:Str) (st:Stmt) (nd:Nat):Prop where
 ex:∃(f:Addr) (fd:FuncData) (dV:Value),FunD K x x st f fd dV∧mg x=some (.ref f)∧DfOk K dV nd
structure HasMth (K:PySem.W.Frag) (mg:Str→Option Value) (c m qual:Str) (st:Stmt):Prop where
 ex:∃(C f:Addr) (fd:FuncData),FunD K m qual st f fd .none∧mg c=some (.ref C)∧Cls K C∧Meth K C m f
structure HasMk (K:PySem.W.Frag) (mg:Str→Option Value) (c qual:Str) (st:Stmt) (nd:Nat):Prop where
 ex:∃(C f:Addr) (fd:FuncData) (dV:Value),FunD K "__init__" qual st f fd dV∧mg c=some (.ref C)∧Mk K C f∧DfOk K dV nd
def Bnd0 (x qual:Str) (st:Stmt) (ps:List Str):Prop:=∀(kV doc pm:Value) (an:Option Addr) (cdv ct:Value) (us:List Value),us.length=ps.length →
 bindArgs (PySem.W.fnOf x qual (zgd st) (zam st) (zab st) .none kV doc pm an cdv ct) ⟨us,[]⟩=pure (ps.zip us)
def Bnd1 (x qual:Str) (st:Stmt) (ps:List Str) (n:Nat):Prop:=∀(T:Addr) (kV doc pm:Value) (an:Option Addr) (cdv ct:Value) (us:List Value),us.length=n →
 ∃kk,bindArgs (PySem.W.fnOf x qual (zgd st) (zam st) (zab st) (.ref T) kV doc pm an cdv ct) ⟨us,[]⟩=(seqItems? (.ref T) >>= kk)∧kk (some #[Value.none])=pure (ps.zip (us++List.replicate (ps.length - n) Value.none))
section
variable {P:Program}{w:World}{K:PySem.W.Frag}{mg:Str→Option Value}{base:Heap}{x qual c m:Str}{st:Stmt}{N ps:List Str}{k:Nat}{b:C}{dV:Value}{f:Addr}{fd:FuncData}
abbrev Body (P:Program) (w:World) (K:PySem.W.Frag) (mg:Str→Option Value) (base:Heap) (N:List Str) (qual:Str) (st:Stmt) (k:Nat) (b:C):Prop :=
 ∀(f:Addr) (cdv:Value) (A:Around) (outer:List Env) (s:Shared) (H:Hp) (E:XK),Room k (A.deeper (envOfC qual (zab st) s.heap.objs.size f cdv)) →
     FSs (cxOf CX0 P w K mg base N qual (zab st) f cdv A outer s H E).nox (zam st) b
theorem FunD.binds0 (F:FunD K x qual st f fd .none) (h:Bnd0 x qual st ps):Binds K fd ps []:=by
 obtain ⟨oc,od,kV,doc,pm,an,cdv,ct,osl,rfl,lk,hcd⟩:=F.ex
 exact .all (h kV doc pm an cdv ct)
theorem FunD.binds1 (F:FunD K x qual st f fd dV) (hd:DfOk K dV 1) {n:Nat} (h:Bnd1 x qual st ps n) (hn:n≤ps.length):Binds K fd ps (List.replicate (ps.length - n) Value.none):=by
 obtain ⟨oc,od,kV,doc,pm,an,cdv,ct,osl,rfl,lk,hcd⟩:=F.ex
 obtain ⟨T,o,mm,rfl,hT,ho⟩:=hd
 intro s us hK hl
 obtain ⟨kk,h1,h2⟩:=h T kV doc pm an cdv ct us (by rw [List.length_append,List.length_replicate] at hl;omega)
 exact BindsTo.of_defaults rfl (hK T o hT) ho h1 h2
theorem zqi:∀n:Nat,Vals (List.replicate n V.non) (List.replicate n Value.none)
 | 0=>.nil
 | n + 1=>.cons rfl (zqi n)
theorem zvd {ρ H}:∀n:Nat,RepL K mg ρ H (List.replicate n D.non) (List.replicate n V.non)
 | 0=>RepL.nil
 | n + 1=>RepL.cons rfl (zvd n)
theorem fn_none:FnOk P w K mg base CX0 k f fd ps (spG K mg fun _ _=>none):=by
 have no:∀vs H Q E,¬ spG K mg (fun _ _=>none) vs H Q E:=fun vs H Q E h=>by
   obtain ⟨_,_,_,_,_,_,_,h,_⟩:=h
   cases h
 exact ⟨fun vs H Q E h=>absurd h (no vs H Q E),fun A outer s H args us vs Q E _ _ _ _ h=>absurd h (no vs H Q E)⟩
theorem HasDef.cal (h:HasDef K mg x st 0) (S:FnScope N ps (zab st)) (hb:Bnd0 x x st ps) (hbody:Body P w K mg base N x st k b):Cal P w K mg base (k + 1) x (zaz N.length ps.length b):=by
 obtain ⟨f,fd,dV,F,hm,rfl⟩:=h.ex
 exact ⟨f,fd,ps,[],[],[],_,F.ok S fun cdv A outer s H E hr=>hbody f cdv A outer s H E hr,hm,F.kp,F.binds0 hb,.nil,fun _ _=>RepL.nil,fun args S r e=>by rw [List.append_nil];exact e⟩
theorem HasDef.none0 (h:HasDef K mg x st 0) (hb:Bnd0 x x st ps):Cal P w K mg base k x (fun _ _=>none):=by
 obtain ⟨f,fd,dV,F,hm,rfl⟩:=h.ex
 exact ⟨f,fd,ps,[],[],[],_,fn_none,hm,F.kp,F.binds0 hb,.nil,fun _ _=>RepL.nil,fun args S r e=>by cases e⟩
theorem HasMth.mth (h:HasMth K mg c m qual st) (S:FnScope N ps (zab st)) (hb:Bnd0 m qual st ps) (hbody:Body P w K mg base N qual st k b):Mth P w K mg base (k + 1) c m (zaz N.length ps.length b):=by
 obtain ⟨C,f,fd,F,hm,hc,hme⟩:=h.ex
 exact ⟨C,f,fd,ps,[],[],[],_,F.ok S fun cdv A outer s H E hr=>hbody f cdv A outer s H E hr,hm,hc,hme,F.binds0 hb,.nil,fun _ _=>RepL.nil,fun args S r e=>by rw [List.append_nil];exact e⟩
theorem HasMk.mk1 (h:HasMk K mg c qual st 1) (S:FnScope N ps (zab st)) (hb:Bnd1 "__init__" qual st ps ps.length) (hbody:Body P w K mg base N qual st k b):Mak P w K mg base (k + 1) c (zaz N.length ps.length b):=by
 obtain ⟨C,f,fd,dV,F,hm,hme,hd⟩:=h.ex
 have B:=F.binds1 hd hb (Nat.le_refl _)
 rw [Nat.sub_self] at B
 exact ⟨C,f,fd,ps,[],[],[],_,F.ok S fun cdv A outer s H E hr=>hbody f cdv A outer s H E hr,hm,hme,B,.nil,fun _ _=>RepL.nil,fun args S r e=>by rw [List.append_nil];exact e⟩
theorem HasMk.mk1d (h:HasMk K mg c qual st 1) (S:FnScope N ps (zab st)) {n:Nat} (hn:ps.length=n + 1) (hb:Bnd1 "__init__" qual st ps n) (hbody:Body P w K mg base N qual st k b):Mak P w K mg base (k + 1) c (dflt 1 (zaz N.length ps.length b)):=by
 obtain ⟨C,f,fd,dV,F,hm,hme,hd⟩:=h.ex
 have B:=F.binds1 hd hb (by omega)
 rw [hn,Nat.add_sub_cancel_left] at B
 exact ⟨C,f,fd,ps,_,_,_,_,F.ok S fun cdv A outer s H E hr=>hbody f cdv A outer s H E hr,hm,hme,B,zqi 1,fun _ _=>zvd 1,fun args S r e=>e⟩
end
section
variable {K:PySem.W.Frag}{h:Heap}{mg:Str→Option Value} (X:K.In h) (G:h.Ns mainGlobals mg)
include X G
theorem has_def {x:Str}{st:Stmt}{f:Addr}{oc:Value}{od an:Option Addr}{osl:Array (Option Value)}{kV doc pm cdv ct:Value} (a:PySem.W.nsIn K mainGlobals x=some (some (.ref f)))
   (l:K.lookup f=some ⟨oc,od,.func (PySem.W.fnOf x x (zgd st) (zam st) (zab st) .none kV doc pm an cdv ct),osl⟩) (c:PySem.W.codeIn K cdv x=true) (k:PySem.W.keepIn K (.ref f)=true):HasDef K mg x st 0 :=
 ⟨f,_,.none,⟨⟨oc,od,kV,doc,pm,an,cdv,ct,osl,rfl,l,c⟩,k⟩,PySem.W.mg_of X G a,rfl⟩
theorem has_mth {cn m qual:Str}{st:Stmt}{C f:Addr}{oc:Value}{od an:Option Addr}{osl:Array (Option Value)}{kV doc pm cdv ct:Value} (aC:PySem.W.nsIn K mainGlobals cn=some (some (.ref C))) (hc:Cls K C)
   (a:PySem.W.findIn K (.ref C) m=some (some (.ref f))) (i:PySem.W.isFn K (.ref f)=true)
   (l:K.lookup f=some ⟨oc,od,.func (PySem.W.fnOf m qual (zgd st) (zam st) (zab st) .none kV doc pm an cdv ct),osl⟩) (c:PySem.W.codeIn K cdv qual=true) (k:PySem.W.keepIn K (.ref f)=true):HasMth K mg cn m qual st :=
 ⟨C,f,_,⟨⟨oc,od,kV,doc,pm,an,cdv,ct,osl,rfl,l,c⟩,k⟩,PySem.W.mg_of X G aC,hc,⟨a,i,k⟩⟩
theorem has_mk1 {cn qual:Str}{st:Stmt}{C f T:Addr}{oc tc:Value}{od an td:Option Addr}{osl tsl:Array (Option Value)}{kV doc pm cdv ct:Value}{m:Nat} (aC:PySem.W.nsIn K mainGlobals cn=some (some (.ref C)))
   (mk:PySem.W.makesIn K C=true) (kc:PySem.W.keepIn K (.ref C)=true) (a:PySem.W.findIn K (.ref C) "__init__"=some (some (.ref f))) (i:PySem.W.isFn K (.ref f)=true)
   (l:K.lookup f=some ⟨oc,od,.func (PySem.W.fnOf "__init__" qual (zgd st) (zam st) (zab st) (.ref T) kV doc pm an cdv ct),osl⟩) (c:PySem.W.codeIn K cdv qual=true) (k:PySem.W.keepIn K (.ref f)=true)
   (t:K.lookup T=some ⟨tc,td,.seq #[Value.none] m,tsl⟩):HasMk K mg cn qual st 1 :=
 ⟨C,f,_,.ref T,⟨⟨oc,od,kV,doc,pm,an,cdv,ct,osl,rfl,l,c⟩,k⟩,PySem.W.mg_of X G aC,⟨mk,a,i,kc⟩,T,_,m,rfl,t,rfl⟩
theorem has_cls {cn:Str}{C:Addr} (aC:PySem.W.nsIn K mainGlobals cn=some (some (.ref C))) (pg:PySem.W.plainGet K C Str.empty=true) (hd:PySem.W.hasDictIn K C=true) (po:PySem.W.plainOver K C=true) (sa:PySem.W.findIn K (.ref C) "__setattr__"=some (some (.builtin "object.__setattr__"))):Cls K C:=⟨pg,hd,po,sa⟩
theorem has_fld {cn n:Str}{C:Addr} (aC:PySem.W.nsIn K mainGlobals cn=some (some (.ref C))) (hc:Cls K C) (a:PySem.W.findIn K (.ref C) n=some none):Fld K mg cn n:=fun C' e=>by
 rw [PySem.W.mg_of X G aC] at e
 cases e
 exact ⟨hc,a⟩
theorem has_int {x:Str}{n:Int}{t:Tok} (a:PySem.W.nsIn K mainGlobals x=some (some (.int n t))):∃t,mg x=some (.int n t):=⟨t,PySem.W.mg_of X G a⟩
end
theorem zqt {K mg ρ H}:∀ns:List Int,RepL K mg ρ H (ns.map D.int) (ns.map V.int)
 | []=>RepL.nil
 | _::ns=>RepL.cons rfl (zqt ns)
end F
namespace F
open PySem L2 PySem.Spec PyProof.Rows
def zny (op op':D→D→Option D) (f g h:E):E:=fun ev S=>(f ev S).bind fun p=>(g ev p.2).bind fun q=>(op p.1 q.1).bind fun z=>match z with
 | .bl true=>(h ev q.2).bind fun r=>(op' q.1 r.1).map fun d=>(d,r.2)
 | .bl false=>some (.bl false,q.2)
 | _=>none
theorem ls1 {P:List Value→Prop} (h:∀a0,P [a0]) (us:List Value) (hl:us.length=1):P us:=match us,hl with
 | [a0],_=>h a0
theorem ls2 {P:List Value→Prop} (h:∀a0 a1,P [a0,a1]) (us:List Value) (hl:us.length=2):P us:=match us,hl with
 | [a0,a1],_=>h a0 a1
theorem ls3 {P:List Value→Prop} (h:∀a0 a1 a2,P [a0,a1,a2]) (us:List Value) (hl:us.length=3):P us:=match us,hl with
 | [a0,a1,a2],_=>h a0 a1 a2
theorem ls4 {P:List Value→Prop} (h:∀a0 a1 a2 a3,P [a0,a1,a2,a3]) (us:List Value) (hl:us.length=4):P us:=match us,hl with
 | [a0,a1,a2,a3],_=>h a0 a1 a2 a3
end F
namespace F
open PySem L2 PySem.Spec PyProof.Rows
def zrw (g:As):E:=fun ev S=>(g ev S).bind fun q=>match q.1 with
 | [.tup ds]=>some (.lst ds,q.2)
 | [.lst ds]=>some (.lst ds,q.2)
 | _=>none
def zmk (op op' op2:D→D→Option D) (f g h i:E):E:=fun ev S=>(f ev S).bind fun p=>(g ev p.2).bind fun q=>(op p.1 q.1).bind fun z=>match z with
 | .bl true=>(h ev q.2).bind fun r=>(op' q.1 r.1).bind fun z=>(match z with
   | .bl true=>(i ev r.2).bind fun t=>(op2 r.1 t.1).map fun d=>(d,t.2)
   | .bl false=>some (.bl false,r.2)
   | _=>none)
 | .bl false=>some (.bl false,q.2)
 | _=>none
section
variable {X:Cx}{e:Expr}{es:List Expr}{f:E}{g:As}{p pos:Pos}
theorem fe_listV (hm:X.mg "list"=none) (ha:FA X (e::es) g) (hg:Gl X "list":=by rfl) (he:starEach (e::es) X.env=(false,eval e X.env)::starEach es X.env:=by exact zay rfl) (hpl:(backTo pos (starEach es X.env)).any (·.1)=false:=by exact zca rfl):FE X (.Call (.Name "list" p) (e::es) [] pos) (zrw g) :=
 zbw (zvn zoi hg hm zol ha (by decide) (by decide) he hpl) fun σ H Q h=>by
   obtain ⟨ρ,ev,S,d,S',hE,hS,hf,k⟩:=h
   obtain ⟨⟨x,S1⟩,q1,hf⟩:=zaq hf
   refine ⟨ρ,ev,S,x,S1,hE,hS,q1,fun vs ρ1 H1 E1 hS1 r1=>?_⟩
   have fin:∀{us:List V}{ds:List D},RepL X.K X.mg ρ1 H1 ds us→(d,S')=(D.lst ds,S1)→∀l,H1 l=none→Q (.ref l) (upd H1 l (.lst us)):=by
     intro us ds r e l hl
     cases e
     exact k _ ρ1 _ (E1.trans (zbv hS1 _ hl)) (hS1.new _ hl) (Rep.lst (s:=hS1) hl r)
   dsimp only at hf
   split at hf
   · obtain ⟨v,rfl,r⟩:=one r1
     obtain ⟨b,us,rfl,t,r⟩:=r.refT
     exact ⟨b,us,rfl,.inr t.sq,fin r (Option.some.inj hf).symm⟩
   · obtain ⟨v,rfl,r⟩:=one r1
     obtain ⟨b,us,rfl,t,r⟩:=r.refL
     exact ⟨b,us,rfl,.inl t.sq,fin r (Option.some.inj hf).symm⟩
   · cases hf
theorem t_chain {R R':R2}{op op':D→D→Option D}{f g h:E}{σ:L2.St}{H:Hp}{Q:VK} (hs:Snd2 X.K X.mg R fun _=>op) (hs':Snd2 X.K X.mg R' fun _=>op') (h0:tE X.K X.mg (zny op op' f g h) σ H Q):tChain R R' (tE X.K X.mg f) (tE X.K X.mg g) (tE X.K X.mg h) σ H Q:=by
 obtain ⟨ρ,ev,S,d,S',hE,hS,hf,k⟩:=h0
 obtain ⟨⟨x,S1⟩,q1,hf⟩:=zaq hf
 obtain ⟨⟨y,S2⟩,q2,hf⟩:=zaq hf
 obtain ⟨z,q3,hf⟩:=zaq hf
 refine ⟨ρ,ev,S,x,S1,hE,hS,q1,fun v ρ1 H1 E1 hS1 r1=>⟨ρ1,ev,S1,y,S2,hE.mono E1,hS1,q2,fun u ρ2 H2 E2 hS2 r2=>?_⟩⟩
 refine hs ρ2 H2 _ v u x y z _ hS2 (r1.mono E2) r2 q3 fun w H3 E3 hS3 r3=>?_
 dsimp only at hf
 split at hf
 · obtain ⟨⟨t,S4⟩,q4,hf⟩:=zaq hf
   obtain ⟨dd,q5,hf⟩:=mapS hf
   cases hf
   refine ⟨true,r3,ρ2,ev,S2,t,S4,((hE.mono E1).mono E2).mono E3,hS3,q4,fun tv ρ4 H4 E4 hS4 r4=>?_⟩
   exact hs' ρ4 H4 _ u tv y t _ _ hS4 ((r2.mono E3).mono E4) r4 q5 fun w' H5 E5 hS5 r5=>k w' ρ4 H5 ((((E1.trans E2).trans E3).trans E4).trans E5) hS5 r5
 · cases hf
   exact ⟨false,r3,k _ ρ2 H3 ((E1.trans E2).trans E3) hS3 rfl⟩
 · cases hf
theorem fb_leLt {a b c:Expr}{f g h:E}{pos:Pos} (ha:FE X a f) (hb:FE X b g) (hc:FE X c h) (hm:lastMarks [.LtE,.Lt] [b,c]=false:=by with_unfolding_all rfl):FB X (.Compare a [.LtE,.Lt] [b,c] pos) (bE (zny opLe opLt f g h)) :=
 zic (pt_chain zsz op_lt ha hb hc hm) fun _ _ _ h=>tb_of (fun _ h=>t_chain zer zer h) h
def tChain3 (r r' r2:R2) (ta tb tc td:TE):TE:=fun σ H Q=>ta σ H fun x H1=>tb σ H1 fun y H2=>r x y H2 fun z H3=>∃k,z=.bl k ∧
 (if k=true then tc σ H3 fun w H4=>r' y w H4 fun z' H5=>∃k',z'=.bl k'∧(if k'=true then td σ H5 fun u H6=>r2 w u H6 Q else Q (.bl false) H5) else Q (.bl false) H3)
theorem zvj {a b c d:Expr}{ta tb tc td:TE}{op op' op2:CmpOp}{r r' r3:R2} (ho:OpR X (compareOp op) r) (ho':OpR X (compareOp op') r') (ho2:OpR X (compareOp op2) r3) (ha:PE X a ta) (hb:PE X b tb) (hc:PE X c tc) (hd:PE X d td)
   (hm:lastMarks [op,op',op2] [b,c,d]=false:=by with_unfolding_all rfl):PT X (.Compare a [op,op',op2] [b,c,d] pos) (tTest (tChain3 r r' r3 ta tb tc td)):=by
 intro pins s σ H Q I h
 refine isTrue_chain (thn (ha pins s σ H _ I h) fun v s1 ⟨x,H1,I1,r1,q1⟩=>test_link (thn (hb pins s1 σ H1 _ I1 q1) fun u s2 ⟨y,H2,I2,r2,q2⟩ =>
   thn (ho pins s2 σ H2 x y v u _ I2 r1 r2 q2) fun d s3 ⟨z,H3,I3,r3,k,e,q3⟩=>?_)) hm
 subst e
 cases r3
 refine wpAny_truthy_bool ?_
 cases k with
 | false =>
   obtain ⟨k',e',q'⟩:=q3
   cases e'
   exact ite_ff ⟨H3,I3,q'⟩
 | true =>
   refine ite_tt (test_link (thn (hc pins s3 σ H3 _ I3 q3) fun w' s4 ⟨z',H4,I4,r4,q4⟩=>thn (ho' pins s4 σ H4 y z' u w' _ I4 r2 r4 q4) fun d' s5 ⟨z2,H5,I5,r5,k2,e2,q5⟩=>?_))
   subst e2
   cases r5
   refine wpAny_truthy_bool ?_
   cases k2 with
   | false =>
     obtain ⟨k',e',q'⟩:=q5
     cases e'
     exact ite_ff ⟨H5,I5,q'⟩
   | true =>
     refine ite_tt (test_last (thn (hd pins s5 σ H5 _ I5 q5) fun w2 s6 ⟨z6,H6,I6,r6,q6⟩=>thn (ho2 pins s6 σ H6 z' z6 w' w2 _ I6 r4 r6 q6) fun d6 s7 ⟨z7,H7,I7,r7,k7,e7,q7⟩=>?_))
     subst e7
     cases r7
     exact wpAny_truthy_bool ⟨H7,I7,q7⟩
theorem fb_leLeLe {a b c d:Expr}{f g h i:E}{pos:Pos} (ha:FE X a f) (hb:FE X b g) (hc:FE X c h) (hd:FE X d i) (hm:lastMarks [.LtE,.LtE,.LtE] [b,c,d]=false:=by with_unfolding_all rfl):FB X (.Compare a [.LtE,.LtE,.LtE] [b,c,d] pos) (bE (zmk opLe opLe opLe f g h i)) :=
 zic (zvj zsz zsz zsz ha hb hc hd hm) fun σ H Q h=>tb_of (fun Q h0=>by
   obtain ⟨ρ,ev,S,d,S',hE,hS,hf,k⟩:=h0
   obtain ⟨⟨x,S1⟩,q1,hf⟩:=zaq hf
   obtain ⟨⟨y,S2⟩,q2,hf⟩:=zaq hf
   obtain ⟨z,q3,hf⟩:=zaq hf
   refine ⟨ρ,ev,S,x,S1,hE,hS,q1,fun v ρ1 H1 E1 hS1 r1=>⟨ρ1,ev,S1,y,S2,hE.mono E1,hS1,q2,fun u ρ2 H2 E2 hS2 r2=>?_⟩⟩
   refine zer ρ2 H2 _ v u x y z _ hS2 (r1.mono E2) r2 q3 fun w H3 E3 hS3 r3=>?_
   dsimp only at hf
   split at hf
   · obtain ⟨⟨t,S4⟩,q4,hf⟩:=zaq hf
     obtain ⟨dd,q5,hf⟩:=zaq hf
     refine ⟨true,r3,ρ2,ev,S2,t,S4,((hE.mono E1).mono E2).mono E3,hS3,q4,fun tv ρ4 H4 E4 hS4 r4=>?_⟩
     refine zer ρ4 H4 _ u tv y t _ _ hS4 ((r2.mono E3).mono E4) r4 q5 fun w' H5 E5 hS5 r5=>?_
     split at hf
     · obtain ⟨⟨t6,S6⟩,q6,hf⟩:=zaq hf
       obtain ⟨d7,q7,hf⟩:=mapS hf
       cases hf
       refine ⟨true,r5,ρ4,ev,S4,t6,S6,((((hE.mono E1).mono E2).mono E3).mono E4).mono E5,hS5,q6,fun tv6 ρ6 H6 E6 hS6 r6=>?_⟩
       exact zer ρ6 H6 _ tv tv6 t t6 _ _ hS6 ((r4.mono E5).mono E6) r6 q7 fun w7 H7 E7 hS7 r7=>k w7 ρ6 H7 ((((((E1.trans E2).trans E3).trans E4).trans E5).trans E6).trans E7) hS7 r7
     · cases hf
       exact ⟨false,r5,k _ ρ4 H5 ((((E1.trans E2).trans E3).trans E4).trans E5) hS5 rfl⟩
     · cases hf
   · cases hf
     exact ⟨false,r3,k _ ρ2 H3 ((E1.trans E2).trans E3) hS3 rfl⟩
   · cases hf) h
end
end F
namespace F
open PySem L2 PySem.Spec PyProof.Rows
mutual
def bnd (n:Nat):D→Bool
 | .obj i=>decide (i < n)
 | .tup ds=>bndL n ds
 | .lst ds=>bndL n ds
 | .clo _ ds=>bndL n ds
 | _=>true
def bndL (n:Nat):List D→Bool
 | []=>true
 | d::ds=>bnd n d && bndL n ds
end
def bndM (n:Nat):MO→Bool
 | .lst ds=>bndL n ds
 | .ins _ fs=>bndL n (fs.map (·.2))
 | .dct kvs=>bndL n (kvs.map (·.2))
 | .exc _=>true
 | .tab _ _=>true
def frz (g:G):G:=fun ds S=>(g ds S).bind fun r=>if (r.2.take S.length).all (bndM S.length)=true then (match r.1 with
 | .obj i=>if i < S.length then some (.obj i,r.2.take S.length) else (match r.2[i]? with
   | some (.lst us)=>if bndL S.length us=true then some (.lst us,r.2.take S.length) else none
   | _=>none)
 | d=>if bnd S.length d=true then some (d,r.2.take S.length) else none) else none
section
variable {K:PySem.W.Frag}{mg:Str→Option Value}{ρ ρ':List Addr}{H H':Hp}{S S1:Sto}{n:Nat}
theorem TupAt.cut {p:Addr}{vs:List V} (h:TupAt K ρ H p vs):TupAt K (ρ.take n) H p vs:=h.imp (fun ⟨a,b⟩=>⟨fun z=>a (List.mem_of_mem_take z),b⟩) id
theorem LstAt.cut {p:Addr}{vs:List V} (h:LstAt K ρ H p vs):LstAt K (ρ.take n) H p vs:=h.imp (fun ⟨a,b⟩=>⟨fun z=>a (List.mem_of_mem_take z),b⟩) id
theorem Cells.cut:∀{xs:List Str}{us:List V}{cl:List (Str×Addr)},Cells ρ H xs us cl→Cells (ρ.take n) H xs us cl
 | [],[],[],_=>trivial
 | x::xs,u::us,p::cl,h=>⟨h.1,fun z=>h.2.1 (List.mem_of_mem_take z),h.2.2.1,Cells.cut h.2.2.2⟩
 | [],[],_::_,h=>h.elim
 | [],_::_,_,h=>h.elim
 | _::_,[],_,h=>h.elim
 | _::_,_::_,[],h=>h.elim
mutual
theorem Rep.cut:∀{d:D}{v:V},bnd n d=true→Rep K mg ρ H d v→Rep K mg (ρ.take n) H d v
 | .non,_,_,h=>h
 | .bl _,_,_,h=>h
 | .int _,_,_,h=>h
 | .str _,_,_,h=>h
 | .fn _,_,_,h=>h
 | .ty _,_,_,h=>h
 | .tup ds,_,hb,h=>by
   unfold Rep at h ⊢
   unfold bnd at hb
   obtain ⟨p,vs,e1,t,r⟩:=h
   exact ⟨p,vs,e1,t.cut,RepL.cut hb r⟩
 | .lst ds,_,hb,h=>by
   unfold Rep at h ⊢
   unfold bnd at hb
   obtain ⟨p,vs,e1,t,r⟩:=h
   exact ⟨p,vs,e1,t.cut,RepL.cut hb r⟩
 | .obj i,_,hb,h=>by
   unfold Rep at h ⊢
   unfold bnd at hb
   obtain ⟨a,e1,e2⟩:=h
   exact ⟨a,e1,by rw [List.getElem?_take_of_lt (of_decide_eq_true hb)];exact e2⟩
 | .lam t,_,_,h=>by
   unfold Rep at h ⊢
   obtain ⟨a,e1,n1,c,pm,ct,n2,h1,h2⟩:=h
   exact ⟨a,e1,fun z=>n1 (List.mem_of_mem_take z),c,pm,ct,fun z=>n2 (List.mem_of_mem_take z),h1,h2⟩
 | .clo t vs,_,hb,h=>by
   unfold Rep at h ⊢
   unfold bnd at hb
   obtain ⟨a,us,e1,⟨n1,c,pm,ct,cl,n2,h1,h2,h3,h4⟩,r⟩:=h
   exact ⟨a,us,e1,⟨fun z=>n1 (List.mem_of_mem_take z),c,pm,ct,cl,fun z=>n2 (List.mem_of_mem_take z),h1,h2,h3,h4.cut⟩,RepL.cut hb r⟩
theorem RepL.cut:∀{ds:List D}{vs:List V},bndL n ds=true→RepL K mg ρ H ds vs→RepL K mg (ρ.take n) H ds vs
 | [],_,_,h=>h
 | d::ds,_,hb,h=>by
   unfold RepL at h ⊢
   unfold bndL at hb
   obtain ⟨v,r,e,h1,h2⟩:=h
   obtain ⟨b1,b2⟩:=Bool.and_eq_true_iff.mp hb
   exact ⟨v,r,e,Rep.cut b1 h1,RepL.cut b2 h2⟩
end
theorem MOk.cut {a:Addr}{m:MO} (hb:bndM n m=true) (h:MOk K mg ρ H a m):MOk K mg (ρ.take n) H a m:=by
 cases m with
 | lst ds=>obtain ⟨vs,h1,h2⟩:=h;exact ⟨vs,h1,h2.cut hb⟩
 | ins c fs=>obtain ⟨C,dx,vs,h0,h1,h2,h3⟩:=h;exact ⟨C,dx,vs,h0,h1,h2,h3.cut hb⟩
 | dct kvs=>obtain ⟨vs,h1,h2,h3⟩:=h;exact ⟨vs,h1,h2,h3.cut hb⟩
 | exc c=>exact h
 | tab x q=>obtain ⟨h0,ps,h1,h2,h3⟩:=h;exact ⟨h0,ps,h1,h2,fun pos cv z=>let ⟨c,z1,z2,z3⟩:=h3 pos cv z;⟨c,z1,fun y=>z2 (List.mem_of_mem_take y),z3⟩⟩
theorem StOk.cut (hS:StOk K mg ρ H S) (hb:(S.take n).all (bndM n)=true):StOk K mg (ρ.take n) H (S.take n):=by
 refine ⟨by rw [List.length_take,List.length_take,hS.len],hS.nd.sublist (List.take_sublist _ _),fun i m a e1 e2=>?_⟩
 have hi:i < n:=by
   have:=(List.getElem?_eq_some_iff.mp e1).1
   rw [List.length_take] at this
   omega
 have hm:m∈S.take n:=List.mem_of_getElem? e1
 rw [List.getElem?_take_of_lt hi] at e1 e2
 exact (hS.ob i m a e1 e2).cut (List.all_eq_true.mp hb m hm)
theorem Ext.cut (e:Ext ρ H ρ' H') (hn:ρ.length=n):Ext ρ H (ρ'.take n) H' :=
 ⟨fun i a h=>by rw [List.getElem?_take_of_lt (by rw [← hn];exact (List.getElem?_eq_some_iff.mp h).1)];exact e.pre i a h,e.keep,fun b hb=>e.new b (List.mem_of_mem_take hb)⟩
theorem frz_sp {g:G} (vs:List V) (H:Hp) (Q:VK) (E:XK) (h:spG K mg (frz g) vs H Q E):spG K mg g vs H Q E:=by
 obtain ⟨ρ,ds,S,d,S',hr,hS,hf,k⟩:=h
 obtain ⟨⟨d1,S1⟩,q1,hf⟩:=zaq hf
 refine ⟨ρ,ds,S,d1,S1,hr,hS,q1,fun v ρ' H' E1 hS1 r1=>?_⟩
 dsimp only at hf
 split at hf
 · rename_i hb
   have e0:=E1.cut hS.len
   have s0:=hS1.cut hb
   split at hf
   · rename_i i
     split at hf
     · rename_i hi
       cases hf
       exact k v _ H' e0 s0 (r1.cut (by unfold bnd;exact decide_eq_true hi))
     · rename_i hi
       split at hf
       · rename_i us eu
         split at hf
         · rename_i hu
           cases hf
           unfold Rep at r1
           obtain ⟨a,rfl,ea⟩:=r1
           obtain ⟨ws,m1,m2⟩:=hS1.ob i _ a eu ea
           refine k _ _ H' e0 s0 ?_
           unfold Rep
           refine ⟨a,ws,rfl,.inl ⟨fun z=>?_,.inl m1⟩,m2.cut hu⟩
           obtain ⟨j,hj,ej⟩:=List.getElem_of_mem z
           rw [List.length_take] at hj
           rw [List.getElem_take] at ej
           have hj2:j < ρ'.length:=by omega
           have e3:ρ'[j]? = ρ'[i]?:=by rw [ea,List.getElem?_eq_getElem hj2,ej]
           have:=(List.getElem?_inj hj2 hS1.nd).mp e3
           omega
         · cases hf
       · cases hf
   · split at hf
     · rename_i hd
       cases hf
       exact k v _ H' e0 s0 (r1.cut hd)
     · cases hf
 · cases hf
end
theorem Cal.frz {P:Program}{w:World}{K:PySem.W.Frag}{mg:Str→Option Value}{base:Heap}{k:Nat}{x:Str}{g:G} (c:Cal P w K mg base k x g):Cal P w K mg base k x (frz g):=by
 obtain ⟨f,fd,ps,ds,dvs,dds,gg,FF,hm,hk,hb,hd,hdd,hg⟩:=c.ex
 refine ⟨f,fd,ps,ds,dvs,dds,_root_.F.frz gg,FnOk.imp FF frz_sp,hm,hk,hb,hd,hdd,fun args S r e=>?_⟩
 obtain ⟨r0,q,e⟩:=zaq e
 show (gg (args++dds) S).bind _=_
 rw [hg args S r0 q]
 exact e
end F
namespace F
open PySem L2 PySem.Spec PyProof.Rows
def zjf (c:B) (g:E) (fr:Ev):List D→Sto→Option (List D×Sto)
 | [],S=>some ([],S)
 | d::ds,S=>(c (some d::fr) S).bind fun p=>if p.1=true then (g (some d::fr) p.2).bind fun q=>(zjf c g fr ds q.2).bind fun r=>some (q.1::r.1,r.2) else zjf c g fr ds p.2
def zhi (fr:List Nat) (f:E) (c:B) (g:E):E:=fun ev S=>(f ev S).bind fun p=>match p.1 with
 | .lst us=>(zjf c g (fr.map (evAt ev)) us p.2).map fun q=>(.lst q.1,q.2)
 | _=>none
def bYes:B:=fun _ S=>some (true,S)
inductive FT (X:Cx):List Expr→B→Prop
 | nil:FT X [] bYes
 | one {e:Expr}{u:B}:FB X e u→FT X [e] u
section
variable {X:Cx}{pins:List (Addr×Obj)}{σ:L2.St}{H:Hp}{s:Shared}{scope:Scope}{x:Str}{N':List Str}{fr:List Nat}
theorem zwq {ifs:List Expr}{c:B} (h:FT X ifs c) {Q:Bool→Hp→Prop} (I:Inv X pins σ H s) (t:tB X.K X.mg c σ H Q) :
   wpAny (model X.prog X.w) X.A (forIn ifs true fun c r=>if r=true then do let ok ← isTrue c X.env (eval c X.env);pure (ForInStep.yield ok) else pure (ForInStep.yield r)) (TP X pins σ Q) X.xe s:=by
 cases h with
 | nil =>
   obtain ⟨ρ,ev,S,b,S',hE,hS,hf,k⟩:=t
   cases hf
   exact wpAny_tests_nil ⟨H,I,k ρ H (Ext.refl _ _) hS⟩
 | one h=>exact wpAny_tests_one (h pins s σ H Q I t)
def CompIL (X X':Cx) (cn:B) (g:E) (fre:Ev) (t:L2.St) (fp:List Addr) (tn:Nat→Heap→Prop) (Dl:Addr) (us:List D) (ρ1:List Addr) (H2:Hp) (ds:List D) (Sf:Sto) (m:Nat) (st:Shared):Prop :=
 ∃(i:Nat) (ρ':List Addr) (H':Hp) (ys:List V) (its:List Value) (acc rest:List D) (Si:Sto) (w:Option V),m=us.length - i∧i≤us.length∧Inv X' [] (w::t) H' st∧tn i st.heap∧(∀b∈fp,H' b=none)∧H' Dl=none∧st.heap.PlainList Dl (List.toArray its)∧Vals ys its ∧
   Ext ρ1 H2 ρ' H'∧StOk X.K X.mg ρ' H' Si∧RepL X.K X.mg ρ' H' acc ys∧acc.length≤i∧zjf cn g fre (us.drop i) Si=some (rest,Sf)∧ds=acc++rest
theorem fe_compL {elt l:Expr}{ifs:List Expr}{px pos:Pos}{f g:E}{cn:B} (c:CompOk X scope x N' fr) (hl:FE X l f) (hif:∀s₀ H₀ C ex,FT (zdm X (x::N') scope s₀ H₀ C ex) ifs cn) (helt:∀s₀ H₀ C ex,FE (zdm X (x::N') scope s₀ H₀ C ex) elt g)
   (hc:X.calm=true:=by rfl) (hs:∀v,foldedSetIterable l X.env v=pure v:=by intro _;rfl) :
   FE X (.ListComp elt [⟨.Name x px,l,ifs,0⟩] scope pos) (zhi fr f cn g):=by
 intro pins s σ H Q I h
 obtain ⟨ρ,ev,S,d,S',hE,hS,hf,k⟩:=h
 obtain ⟨⟨y,S1⟩,q1,hf⟩:=zaq hf
 cases y with
 | lst us =>
   · obtain ⟨⟨ds,S2⟩,q2,hf⟩:=mapS hf
     cases hf
     rw [eval_ListComp]
     refine wpAny_comprehension_free (use:=none) rfl hs (zdp fun p hp e=>I.ok.has p.1 (.inl ((c.chk p hp).2.1 e))) c.kind (fun y hy e=>(c.chk y hy).2.2 e) ?_
     refine thn (zlj (tg:=.Name x px) hl pins s σ H (fun J H1=>∃ρ1 p vs,J=Itl X.K p∧Ext ρ H ρ1 H1∧StOk X.K X.mg ρ1 H1 S1∧LstAt X.K ρ1 H1 p vs∧RepL X.K X.mg ρ1 H1 us vs) I ⟨ρ,ev,S,.lst us,S1,hE,hS,q1,fun v ρ1 H1 E1 hS1 r1=>?_⟩) fun v s1 h1=>thn h1 fun itv s2 h2=>?_
     · obtain ⟨p,vs,rfl,t1,rL⟩:=r1.refL
       exact ⟨p,rfl,⟨vs,t1.sq⟩,ρ1,p,vs,rfl,E1,hS1,t1,rL⟩
     obtain ⟨it,fp,tn,J,H2,e,I2,T,st2,f2,ρ1,p,vs,eJ,E1,hS1,t1,rL⟩:=h2
     subst e eJ
     have hlen:=rL.length
     obtain ⟨_,_,_,hz0⟩:=I2.list t1.sq
     have hE1:=hE.mono E1
     have hcell:∀y∈scope.names,y.2≠.cell:=fun y hy=>(c.chk y hy).1
     refine wpAny_newObj_type (wpAny_newFunctionEnv hcell (by intro y hy;simp at hy) (fun h₁ hns₁ hsb₁=>?_) c.kind)
     dsimp only at hns₁ hsb₁ ⊢
     generalize hH2:s2.heap.push { cls:=.type "list",dict:=none,data:=.seq ([]:List Value).toArray }=G2 at hns₁ hsb₁ ⊢
     have hC:G2.objs.size=s2.heap.objs.size + 1:=by rw [← hH2,Heap.size_push]
     have hDC:s2.heap.objs.size≠G2.objs.size:=by rw [hC];exact Nat.ne_of_lt (Nat.lt_succ_self _)
     have hCle:s2.heap.objs.size≤G2.objs.size:=by rw [hC];exact Nat.le_succ _
     have old:∀b o,s2.heap.get? b=some o→h₁.get? b=some o:=fun b o e=>hsb₁.extBut b o (by rw [hC];exact Nat.ne_of_lt (Nat.lt_succ_of_lt (Heap.lt_size e))) (Heap.get?_push_of_some _ (hH2 ▸ Heap.get?_push_of_some _ e))
     have hacc:h₁.PlainList s2.heap.objs.size #[]:=⟨_,hsb₁.extBut _ _ hDC (Heap.get?_push_of_some _ (hH2 ▸ Heap.get?_push_size _ rfl))⟩
     generalize hDl:s2.heap.objs.size=Dl at hDC hCle hacc
     generalize hCC:G2.objs.size=C at hDC hCle hns₁ hsb₁ hC ⊢
     have hfl:∀b∈fp,b < Dl:=fun b hb=>by
       obtain ⟨o,e,_⟩:=T.obj 0 _ st2 b hb
       rw [← hDl];exact Heap.lt_size e
     have hHD:H2 Dl=none:=I2.hok.fresh (by rw [hDl];exact Nat.le_refl _)
     have hDfs:Dl∉frs X.stack:=fun z=>by
       have z':=I2.stkFree Dl z
       rcases List.mem_cons.mp (I2.stkSub Dl z) with e | e
       · have:=I2.lt
         rw [hDl,← e] at this
         exact Nat.lt_irrefl _ this
       · exact I2.nofs (by rw [hDl];exact Nat.le_refl _) e
     generalize hX':zdm X (x::N') scope s2 H2 C fp=X'
     have I3:Inv X' [] (none::fr.map (svAt σ)) H2 { s2 with heap:=h₁,toks:=s2.toks + ([]:List (Str×Value)).length }:=hX' ▸ c.start I2 f2 (by rw [hDl];exact hfl) (by rw [hDl];exact hCle) old hns₁
     have hEf:EnvR X.K X.mg ρ1 H2 (none::fr.map (evAt ev)) (none::fr.map (svAt σ)):=by
       refine ⟨by simp,fun i d q=>?_⟩
       cases i with
       | zero=>simp at q
       | succ i =>
         have q:(fr.map (evAt ev))[i]? = some (some d):=by simpa using q
         rw [List.getElem?_map] at q
         cases ej:fr[i]? with
         | none=>rw [ej] at q;cases q
         | some jj =>
           rw [ej] at q
           have q:evAt ev jj=some d:=by simpa using q
           have hv:ev[jj]? = some (some d):=by
             unfold evAt at q
             split at q
             · rename_i o ho
               rw [ho,q]
             · cases q
           obtain ⟨v,e1,r⟩:=hE1.at_ jj d hv
           refine ⟨v,?_,r⟩
           show (fr.map (svAt σ))[i]? = some (some v)
           rw [List.getElem?_map,ej]
           show some (svAt σ jj)=_
           unfold svAt
           rw [e1]
     have eA:X'.A=X.A:=by rw [← hX'];rfl
     have eP:X'.prog=X.prog:=by rw [← hX'];rfl
     have eW:X'.w=X.w:=by rw [← hX'];rfl
     have eK:X'.K=X.K:=by rw [← hX'];rfl
     have eM:X'.mg=X.mg:=by rw [← hX'];rfl
     have eEx:X'.ex=fp:=by rw [← hX'];rfl
     have eS0:X'.s₀=s2:=by rw [← hX'];rfl
     have eH0:X'.H₀=H2:=by rw [← hX'];rfl
     have eFs:X'.fs=frs X.stack:=by rw [← hX'];rfl
     have eL:X'.env.locals=C:=by rw [← hX'];rfl
     have ePn:X'.pn=[]:=by rw [← hX'];rfl
     have eEnv:X'.env=compEnvC scope (clOf X.env.cells scope.names []) C X.env:=by rw [← hX'];rfl
     have eCalm:X'.calm=true:=by rw [← hX'];exact hc
     have eXe:X'.xe=fun _ _=>False:=by rw [← hX'];rfl
     have pgx:PG X' (.Name x px) (znt 0):=by
       rw [← hX']
       exact zgz c.nd rfl (.inl (lookup_relabel_local c.hx)) (.inr (lookup_relabel_local c.hx))
     have fel:FE X' elt g:=hX' ▸ helt s2 H2 C fp
     have ftl:FT X' ifs cn:=hX' ▸ hif s2 H2 C fp
     have cellLt:∀y a,X'.env.cells.lookup y=some a→a < Dl:=fun y a e=>by
       rw [eEnv] at e
       obtain ⟨v,q⟩:=I2.cell y a (zdg (fun _ _ h=>by cases h) y a e)
       rw [← hDl];exact q.lt
     have stat:∀{H':Hp}{pl:List (Addr×Obj)},(∀b∈fp,H' b=none)→(∀p∈pl,∀b∈fp,p.1≠b)→∀b∈fp,FpOk X' pl H' b:=fun {H' pl} hn hp b hb =>
       ⟨hn b hb,by rw [eL];exact Nat.ne_of_lt (Nat.lt_of_lt_of_le (hfl b hb) hCle),by rw [eFs];intro z;rcases List.mem_cons.mp (I2.stkSub b z) with e | e;exact (f2 b hb).2.1 e;exact (f2 b hb).2.2.1 e,.inl (by rw [eEx];exact hb),fun y a e=>by
         rw [eEnv] at e
         exact (f2 b hb).2.2.2.2.1 y a (zdg (fun _ _ h=>by cases h) y a e),fun p hpp=>hp p (by rw [ePn] at hpp;simpa using hpp) b hb⟩
     have loop:∀s₃:Shared,s₃={ s2 with heap:=h₁,toks:=s2.toks + ([]:List (Str×Value)).length } →
         codeAny (model X.prog X.w) X.A (.compLoop (.ListComp elt [⟨.Name x px,l,ifs,0⟩] scope pos) 0 (.ref it) (.ref Dl) (compEnvC scope (clOf X.env.cells scope.names []) C X.env))
           (compPost (model X.prog X.w) X.A X.xe none (EP X pins σ Q) (.ref Dl) C) s₃:=by
       rintro s₃ rfl
       refine codeAny_compLoop_tests (CompIL X X' cn g (fr.map (evAt ev)) (fr.map (svAt σ)) fp tn Dl us ρ1 H2 ds S2) ?_ (us.length - 0)
         ⟨0,ρ1,H2,[],[],[],ds,S1,none,rfl,Nat.zero_le _,I3,T.keep _ _ _ st2 (fun b hb o e=>old b o e),fun b hb=>(f2 b hb).1,hHD,hacc,.nil,Ext.refl _ _,hS1,RepL.nil,Nat.le_refl _,q2,rfl⟩
       intro m st hI
       generalize notedBy (model X.prog X.w) X.A (compEnvC scope (clOf X.env.cells scope.names []) C X.env) (fun e s'=>compPost (model X.prog X.w) X.A X.xe none (EP X pins σ Q) (.ref Dl) C (.error e) s')=EE
       obtain ⟨i,ρ',H',ys,its,acc,rest,Si,w,rfl,hi,I',tni,hfp',hD',⟨nn,hpl⟩,rv,E',hSi,ra,hal,hcl,hds⟩:=hI
       have Ip:Inv X' [(Dl,{ cls:=.type "list",data:=.seq (List.toArray its) nn })] (w::fr.map (svAt σ)) H' st:=I'.pins_of fun p hp=>by
         rw [List.mem_singleton.mp hp]
         exact ⟨hpl,hD',by rw [eL];exact hDC,by rw [eFs];exact hDfs,fun v z=>by cases z⟩
       have hnp:∀p∈[(Dl,({ cls:=.type "list",data:=.seq (List.toArray its) nn }:Obj))],∀b∈fp,p.1≠b:=fun p hp b hb=>by
         rw [List.mem_singleton.mp hp]
         exact Ne.symm (Nat.ne_of_lt (hfl b hb))
       by_cases hlt:i < us.length
       · rw [List.drop_eq_getElem_cons hlt] at hcl
         obtain ⟨⟨ok,Sc⟩,qc,hcl⟩:=zaq hcl
         obtain ⟨xv0,ex0,rx0⟩:=(rL.mono E').get (List.getElem?_eq_getElem hlt)
         have ti:=T.item X' eP eW eK eCalm i [(Dl,{ cls:=.type "list",data:=.seq (List.toArray its) nn })] st (w::fr.map (svAt σ)) H' EE Ip (stat hfp' hnp) tni ⟨vs,xv0,(t1.mono E').sq,ex0⟩
         rw [eA] at ti
         refine thn ti fun r s4 ⟨u,hr,h4⟩=>?_
         subst hr
         dsimp only
         show wpAny (model X.prog X.w) X.A (letOwnedTupleGo (.Name x px) (.ref it) u >>= fun _=>assign (.Name x px) (compEnvC scope (clOf X.env.cells scope.names []) C X.env) u) _ _ _
         refine wpAny_bind (thn h4 fun _ s5 ⟨xv,H5,I5,r5,y5,tn5,fp5⟩=>?_)
         obtain ⟨eH5,exv⟩:=y5
         subst eH5
         have exv:=exv vs ((t1.mono E').sq)
         rw [ex0] at exv
         cases exv
         have I5':=I5.pinned (stat fp5 hnp) (T.obj _ _ tn5)
         have as5:=pgx _ s5 _ H5 _ u (fun σ' H'=>H'=H5∧σ'=(w::fr.map (svAt σ)).set 0 (some xv0)) I5' r5 ⟨rfl,rfl⟩
         rw [eP,eW,eA,eEnv,eXe] at as5
         refine wpAny_mono as5 (fun _ s6 ⟨σ6,H6,I6,eH6,eσ6⟩=>?_) (fun _ _ z=>False.elim z)
         subst eH6 eσ6
         have hE6:EnvR X.K X.mg ρ' H6 (some us[i]::fr.map (evAt ev)) (some xv0::fr.map (svAt σ)):=(hEf.mono E').set (i:=0) rx0
         have tc6:=zwq ftl (Q:=fun b H7=>b=ok∧∃ρ7,Ext ρ' H6 ρ7 H7∧StOk X.K X.mg ρ7 H7 Sc) I6 ⟨ρ',_,Si,ok,Sc,by rw [eK,eM];exact hE6,by rw [eK,eM];exact hSi,qc,fun ρ7 H7 E7 hS7=>⟨rfl,ρ7,E7,by rw [eK,eM] at hS7;exact hS7⟩⟩
         rw [eP,eW,eA,eEnv,eXe] at tc6
         refine wpAny_mono tc6 (fun ok' s6 ⟨H6,I6,eok,ρ6,E6,hS6⟩=>?_) (fun _ _ z=>False.elim z)
         subst eok
         have hE6:=hE6.mono E6
         have hpin6:=I6.pin (Dl,{ cls:=.type "list",data:=.seq (List.toArray its) nn }) (List.mem_append_right _ (List.mem_append_left _ (List.mem_singleton.mpr rfl)))
         cases ok' with
         | false =>
           have hcl:zjf cn g (fr.map (evAt ev)) (us.drop (i + 1)) Sc=some (rest,S2):=hcl
           rw [if_neg Bool.false_ne_true]
           have I8:Inv X' [] (some xv0::fr.map (svAt σ)) H6 s6:=I6.pins_of fun p hp=>by cases hp
           have tn8:tn (i + 1) s6.heap:=T.keep _ _ _ tn5 fun b hb o e=>(I6.pin (b,o) (List.mem_append_right _ (List.mem_append_right _ (zbg hb e)))).1
           refine ⟨us.length - (i + 1),by omega,i + 1,ρ6,H6,ys,its,acc,rest,Sc,_,rfl,by omega,I8,tn8,fun b hb=>?_,hpin6.2.1,⟨nn,hpin6.1⟩,rv,E'.trans E6,hS6,ra.mono E6,by omega,hcl,hds⟩
           obtain ⟨o,e,dd⟩:=T.obj _ _ tn5 b hb
           exact (I6.pin (b,o) (List.mem_append_right _ (List.mem_append_right _ (zbg hb e)))).2.1
         | true =>
           rw [if_pos rfl]
           have hcl:(g (some us[i]::fr.map (evAt ev)) Sc).bind (fun q=>(zjf cn g (fr.map (evAt ev)) (us.drop (i + 1)) q.2).bind fun r=>some (q.1::r.1,r.2))=some (rest,S2):=hcl
           obtain ⟨⟨yv,Sn⟩,qe,hcl⟩:=zaq hcl
           obtain ⟨⟨rest',Se⟩,qr,hcl⟩:=zaq hcl
           cases hcl
           have el6:=fel _ s6 _ H6 (fun v H7=>∃ρ7,Ext ρ6 H6 ρ7 H7∧StOk X.K X.mg ρ7 H7 Sn∧Rep X.K X.mg ρ7 H7 yv v) I6 ⟨ρ6,_,Sc,yv,Sn,by rw [eK,eM];exact hE6,by rw [eK,eM];exact hS6,qe,fun v ρ7 H7 E7 hS7 r7=>⟨ρ7,E7,by rw [eK,eM] at hS7;exact hS7,by rw [eK,eM] at r7;exact r7⟩⟩
           rw [eP,eW,eA,eEnv,eXe] at el6
           refine wpAny_mono el6 (fun u7 s7 ⟨v7,H7,I7,r7,ρ7,E7,hS7,rp7⟩=>?_) (fun _ _ z=>False.elim z)
           have hpin:=I7.pin (Dl,{ cls:=.type "list",data:=.seq (List.toArray its) nn }) (List.mem_append_right _ (List.mem_append_left _ (List.mem_singleton.mpr rfl)))
           have hvl:=rv.length
           have hral:=ra.length
           refine wpAny_list_append_plain ⟨nn,hpin.1⟩ (fun h8 hp8 hsb8=>?_) (by rw [List.size_toArray];omega)
           have I8:Inv X' [] (some xv0::fr.map (svAt σ)) H7 { s7 with heap:=h8 }:=by
             have I7':Inv X' [] (some xv0::fr.map (svAt σ)) H7 s7:=I7.pins_of fun p hp=>by cases hp
             exact I7'.turned (it:=Dl) (t':=s7.toks) (fun b o hb e=>(hsb8.2 b hb).trans e) hpin.2.1 (by rw [eL];exact hDC) (.inr (by rw [eS0,hDl];exact Nat.le_refl _)) (fun y a e=>Nat.ne_of_lt (cellLt y a e)) (fun p hp=>by rw [ePn] at hp;cases hp)
           have tn8:tn (i + 1) h8:=T.keep _ _ _ tn5 fun b hb o e=>by
             have:=(I7.pin (b,o) (List.mem_append_right _ (List.mem_append_right _ (zbg hb e)))).1
             exact (hsb8.2 b (Nat.ne_of_lt (hfl b hb))).trans this
           refine ⟨us.length - (i + 1),by omega,i + 1,ρ7,H7,ys++[v7],its++[u7],acc++[yv],rest',Sn,_,rfl,by omega,I8,tn8,fun b hb=>?_,hpin.2.1,?_,rv.append (.cons r7 .nil),(E'.trans E6).trans E7,hS7,((ra.mono E6).mono E7).append (RepL.cons rp7 RepL.nil),by simp;omega,qr,by simp [hds]⟩
           · obtain ⟨o,e,dd⟩:=T.obj _ _ tn5 b hb
             exact (I7.pin (b,o) (List.mem_append_right _ (List.mem_append_right _ (zbg hb e)))).2.1
           · rw [show (its++[u7]).toArray=its.toArray.push u7 by simp]
             exact hp8
       · have ei:i=us.length:=by omega
         have td:=T.done X' eP eW eK eCalm i [(Dl,{ cls:=.type "list",data:=.seq (List.toArray its) nn })] st (w::fr.map (svAt σ)) H' EE Ip (stat hfp' hnp) tni ⟨vs,(t1.mono E').sq,by omega⟩
         rw [eA] at td
         refine thn td fun r s4 ⟨hr,I4⟩=>?_
         subst hr
         dsimp only
         rw [List.drop_eq_nil_of_le (by omega)] at hcl
         cases hcl
         rw [List.append_nil] at hds
         subst hds
         obtain ⟨mm,hns,_⟩:=id I4.loc
         rw [eL] at hns
         refine ⟨mm,hns,fun h' hs'=>?_⟩
         have hpin:=I4.pin (Dl,{ cls:=.type "list",data:=.seq (List.toArray its) nn }) (List.mem_append_right _ (List.mem_singleton.mpr rfl))
         have hHC:H' C=none:=by
           have:=I4.free
           rw [eL] at this
           exact this
         have bs:=I4.base
         rw [eFs,eEx,eH0,eS0] at bs
         have nC:∀b o,s2.heap.get? b=some o→b≠C:=fun b o e z=>by
           have:=Heap.lt_size e
           rw [hDl,z] at this
           exact Nat.lt_irrefl _ (Nat.lt_of_lt_of_le this hCle)
         have un:Un (frs X.stack) fp H2 H' s2.heap h' :=
           ⟨fun b o e n h1 h2=>(hs'.2 b (nC b o e)).trans (bs.keep b o e n h1 h2),fun b o e n h1 h2=>by
             obtain ⟨sl,q⟩:=bs.slot b o e n h1 h2
             exact ⟨sl,(hs'.2 b (nC b o e)).trans q⟩,bs.free,fun b o e h2=>by
             obtain ⟨o',q⟩:=bs.there b o e h2
             exact ⟨o',(hs'.2 b (nC b o e)).trans q⟩,bs.tups,bs.frzs,bs.tbls⟩
         have hok4:=I4.hok
         rw [eP,eW] at hok4
         have os4:=I4.os
         rw [eS0] at os4
         have I9:Inv X pins σ H' { s4 with heap:=h' }:=I2.call' (s':={ s4 with heap:=h' }) os4 un (zej hok4 hs' hHC) I4.bare fun b hb=>by
           obtain ⟨_,a1,a2,a3,a4,a5⟩:=f2 b hb
           exact ⟨a3,a1,a4,a5⟩
         have hvl:=rv.length
         have hral:=ra.length
         have hDl2:s2.heap.objs.size≤Dl:=by rw [hDl];exact Nat.le_refl _
         have I10:Inv X pins σ (upd H' Dl (.lst ys)) { s4 with heap:=h' }:=Inv.track (its:=its) (n:=nn) I9 hD' ((hs'.2 Dl hDC).trans hpin.1) rv (by omega) (.inr (Nat.le_trans I2.sz hDl2)) (Ne.symm (Nat.ne_of_lt (Nat.lt_of_lt_of_le I2.lt hDl2)))
           (fun y a e=>by
             obtain ⟨v,q⟩:=I2.cell y a e
             exact Nat.ne_of_lt (Nat.lt_of_lt_of_le q.lt hDl2)) (fun q hq z=>by
             have:=Heap.lt_size (I2.pin q hq).1
             rw [hDl,z] at this
             exact Nat.lt_irrefl _ this)
         refine ⟨.ref Dl,upd H' Dl (.lst ys),I10,rfl,?_⟩
         exact k _ ρ' _ (E1.trans (E'.trans (zbv hSi _ hD'))) (hSi.new _ hD') (Rep.lst (s:=hSi) hD' ra)
     exact codeAny_compStart_list (loop _ rfl) (T.self X.A 0 _ _ _ (T.keep _ _ _ st2 (fun b hb o e=>old b o e)) (loop _ rfl))
 | _=>cases hf
end
end F
namespace F
open PySem L2 PySem.Spec PyProof.Rows
section
variable {K:PySem.W.Frag}{mg:Str→Option Value}{ρ:List Addr}{H:Hp}{S:Sto}
variable {X:Cx}{a b e o i:Expr}{f g h:E}{pos:Pos}
theorem RepL.dropLast {ds:List D}{vs:List V} (r:RepL K mg ρ H ds vs):RepL K mg ρ H ds.dropLast vs.dropLast:=by
 rw [List.dropLast_eq_take,List.dropLast_eq_take,← r.length]
 exact r.take _
end
end F
namespace F
open PySem L2 PySem.Spec PyProof.Rows
abbrev R:=Ev→Sto→Option (Str×Sto)
abbrev GR:=List D→Sto→Option (Str×Sto)
end F
namespace F
open PySem L2 PySem.Spec PySem.Calls PyProof.Rows PySem.W
structure Up where
 raised:List Str
 asked:List Str
end F
namespace F
open PySem L2 PySem.Spec PySem.Calls PyProof.Rows PySem.W
def negD:D→Option D
 | .int i=>some (.int (-i))
 | _=>none
theorem fe_neg {X:Cx}{e:Expr}{f:E}{pos:Pos} (h:FE X e f):FE X (.UnaryOp .USub e pos) (e1 negD f):=zbw (pe_un un_neg h) fun σ H Q t=>by
 obtain ⟨ρ,ev,S,d,S',hE,hS,hf,k⟩:=t
 obtain ⟨⟨x,S1⟩,q1,hf⟩:=zaq hf
 obtain ⟨z,q2,hf⟩:=mapS hf
 cases hf
 cases x with
 | int i =>
   cases q2
   exact ⟨ρ,ev,S,_,S1,hE,hS,q1,fun v ρ1 H1 a b c=>⟨i,c,k _ ρ1 H1 a b rfl⟩⟩
 | _=>cases q2
end F
namespace F
open PySem L2 PySem.Spec PySem.Calls PyProof.Rows PySem.W
def zgx (x:Str) (lo hi:Option Int):Str:=if ((Builtin.Str.strSliceIndices lo hi 1 x.length).length == x.length)=true then x else ⟨((Builtin.Str.strSliceIndices lo hi 1 x.length).filterMap (x.cps[·]?)).toArray⟩
def opSlS:D→Option Int→Option Int→Option D
 | .str x,lo,hi=>if (zgx x lo hi).length≤sizeLine then some (.str (zgx x lo hi)) else none
 | _,_,_=>none
def eSlS (f:E) (a b:Pt):E:=fun ev S=>(f ev S).bind fun p=>(a ev p.2).bind fun q=>(b ev q.2).bind fun r=>(opSlS p.1 q.1 r.1).map fun d=>(d,r.2)
section
variable {X:Cx}{K:PySem.W.Frag}{mg:Str→Option Value}{e a b:Expr}{es:List Expr}{f g:E}{ga:As}{p pos:Pos}
def rSlS:V→Option Int→Option Int→Hp→VK→Prop:=fun x lo hi H Q=>∃z,x=.str z∧(zgx z lo hi).length≤sizeLine∧Q (.str (zgx z lo hi)) H
theorem sl_str:SlR X rSlS:=by
 intro pins s σ H x v vl vu lo hi sl Q I rx hs pl pu h
 obtain ⟨z,rfl,hz,q⟩:=h
 obtain ⟨t,rfl⟩:=rx
 have hp:∀{v:Value}{o:Option Int},IsPart v o→∃l:Option (Int×Tok),v=partValue l∧l.map (·.1)=o:=fun h=>by
   cases h with
   | none=>exact ⟨none,rfl,rfl⟩
   | int i t=>exact ⟨some (i,t),rfl,rfl⟩
 obtain ⟨l,rfl,rfl⟩:=hp pl
 obtain ⟨u,rfl,rfl⟩:=hp pu
 refine ⟨"str",_,PySem.F.slot_str_getitem.lookup,typeIs_str s z t,?_⟩
 refine wpAny_getItem_str_slice (l:=l) (u:=u) (st:=none) hs rfl ?_
 unfold sliceMade
 by_cases c:((slicePicked z l u none).length == z.length)=true
 · rw [if_pos (by rw [c];rfl)]
   have e:zgx z (l.map (·.1)) (u.map (·.1))=z:=if_pos c
   rw [e] at q
   exact ⟨.str z,H,I,⟨t,rfl⟩,q⟩
 · rw [if_neg (fun w=>c (by simpa using w))]
   have e:zgx z (l.map (·.1)) (u.map (·.1))=⟨((slicePicked z l u none).filterMap (z.cps[·]?)).toArray⟩:=if_neg c
   rw [e] at q hz
   exact ⟨hz,.str _,H,I.tok _,⟨_,rfl⟩,q⟩
theorem zwy {lo hi:Option Expr}{u w:Pt}{p2:Pos} (ha:FE X a f) (hl:FPt X lo u) (hh:FPt X hi w):FE X (.Subscript a (.Slice lo hi none p2) pos) (eSlS f u w) :=
 zbw (zqy sl_str ha hl hh) fun σ H Q h=>by
   obtain ⟨ρ,ev,S,d,S',hE,hS,hf,k⟩:=h
   obtain ⟨⟨x,S1⟩,q1,hf⟩:=zaq hf
   obtain ⟨⟨lo,S2⟩,q2,hf⟩:=zaq hf
   obtain ⟨⟨hi,S3⟩,q3,hf⟩:=zaq hf
   obtain ⟨z,q4,hf⟩:=mapS hf
   cases hf
   refine ⟨ρ,ev,S,x,S1,hE,hS,q1,fun v ρ1 H1 E1 hS1 r1=>⟨ρ1,ev,S1,lo,S2,hE.mono E1,hS1,q2,fun ρ2 H2 E2 hS2=>⟨ρ2,ev,S2,hi,_,(hE.mono E1).mono E2,hS2,q3,fun ρ3 H3 E3 hS3=>?_⟩⟩⟩
   have r3:=(r1.mono E2).mono E3
   have E:=(E1.trans E2).trans E3
   cases x with
   | str y =>
     replace q4:(if (zgx y lo hi).length≤sizeLine then some (D.str (zgx y lo hi)) else none)=some d:=q4
     split at q4
     · rename_i hn
       cases q4
       exact ⟨y,r3.refS,hn,k _ _ _ E hS3 rfl⟩
     · cases q4
   | _=>cases q4
end
end F
namespace F
open PySem L2 PySem.Spec PySem.Calls PyProof.Rows PySem.W
theorem codeP_st {c:Addr}{q:Str} (h1 h2:Heap) (p:zeb c q h1) (k:∀o,h1.get? c=some o→h2.get? c=some o):zeb c q h2:=by
 obtain ⟨c',o,vs,t,e,h,r⟩:=p
 cases e
 exact ⟨_,o,vs,t,rfl,k _ h,r⟩
theorem codeP_at {c:Addr}{q:Str}{h:Heap} (p:zeb c q h):∃o,h.get? c=some o:=by
 obtain ⟨c',o,vs,t,e,h,r⟩:=p
 cases e
 exact ⟨_,h⟩
theorem ztw {p:Pos}{a b:Int}{cv x:Value} (l:List Value) (h:TriplesOk l):codeAmong p (l++[rawInt a,rawInt b,cv])=some x→codeAmong p l=some x∨x=cv:=by
 fun_induction TriplesOk l with
 | case1 =>
   intro e
   simp only [List.nil_append,rawInt,codeAmong] at e
   split at e
   · exact .inr (Option.some.inj e).symm
   · cases e
 | case2 i t j u c rest ih =>
   intro e
   simp only [List.cons_append,codeAmong] at e ⊢
   split at e
   · rename_i z;rw [if_pos z];exact .inl e
   · rename_i z;rw [if_neg z];exact ih h e
 | case3=>exact h.elim
section
variable {X:Cx}{pins:List (Addr×Obj)}{σ:L2.St}{H:Hp}{s:Shared}
theorem zwi {P c:Addr}{ps more:Array Value}{q:Str}{h':Heap}{tk:Nat} (I:Inv X pins σ H s) (hP:H P=some (.tbl ps)) (hx:Heap.ExtBut P s.heap h') (ht:h'.get? P=some (tabObj (ps++more))) (hge:s.heap.objs.size≤c) (hc:zeb c q h') :
   Inv X pins σ (upd (upd H P (.tbl (ps++more))) c (.ext (zeb c q))) { s with heap:=h',toks:=tk }:=by
 have hn:H c=none:=I.hok.fresh hge
 have hPc:P≠c:=Nat.ne_of_lt (Nat.lt_of_lt_of_le (I.hok.lt hP) hge)
 have neP:∀b,H b=none→b≠P:=fun b n z=>by rw [z,hP] at n;cases n
 have nec:∀b u,H b=some u→b≠c:=fun b u e z=>by rw [z,hn] at e;cases e
 have kp:∀b o,s.heap.get? b=some o→b≠P→h'.get? b=some o:=fun b o e n=>hx b o n e
 have keepH:∀b u,H b=some u→(∀ps,u≠.tbl ps)→upd (upd H P (.tbl (ps++more))) c (.ext (zeb c q)) b=some u:=fun b u e n=>by
   rw [zba (nec b u e),zba (fun z=>by rw [z,hP] at e;cases e;exact n ps rfl)]
   exact e
 refine I.un ⟨fun b o e n _ _=>kp b o e (neP b n),fun b o e n _ _=>⟨o.slots,kp b o e (neP b n)⟩,fun b o e n _=>?_,fun b o e _=>?_,fun b xs e=>keepH b _ e (fun _ z=>by cases z),fun b o u e=>keepH b _ e (fun _ z=>by cases z),fun b qs e=>?_⟩ fun b u e=>?_
 · have hb:b < s.heap.objs.size:=Heap.lt_size e
   rw [zba (Nat.ne_of_lt (Nat.lt_of_lt_of_le hb hge)),zba (neP b n)]
   exact n
 · by_cases z:b=P
   · exact ⟨_,z ▸ ht⟩
   · exact ⟨o,kp b o e z⟩
 · by_cases z:b=P
   · subst z
     rw [hP] at e;cases e
     exact ⟨more,by rw [zba hPc,zbj]⟩
   · exact ⟨#[],by rw [zba (nec b _ e),zba z,e];simp⟩
 · by_cases zc:b=c
   · subst zc
     rw [zbj] at e;cases e
     exact ⟨hc,codeP_at hc,fun h1 h2 p k=>codeP_st h1 h2 p k⟩
   · rw [zba zc] at e
     by_cases z:b=P
     · subst z
       rw [zbj] at e;cases e
       exact ht
     · rw [zba z] at e
       refine (I.hok b u e).stay (fun d o hd w=>?_) (fun d w=>keepH d _ w fun _ y=>by cases y) fun d xs w=>keepH d _ w fun _ y=>by cases y
       refine kp d o w fun y=>?_
       rcases hd with rfl | hd
       · exact z y
       · rw [y,hP] at hd;cases hd
theorem zwk {t:LT}{c:Addr}{pm ct:Value}{h':Heap}{tk:Nat} (I:Inv X pins σ H s) (hk:∀b o,s.heap.get? b=some o→h'.get? b=some o) (hsz:s.heap.objs.size≤h'.objs.size) :
   Inv X pins σ (upd H h'.objs.size (.ext (lamP t h'.objs.size c pm ct))) { s with heap:=h'.push (kla_obj "<lambda>" t.qual t.params t.body t.scope t.cl pm c ct),toks:=tk }:=by
 refine I.laid (t':=tk) (fun b o e=>Heap.get?_push_of_some _ (hk b o e)) hsz ?_
 refine ⟨Heap.get?_push_size _ rfl,⟨_,Heap.get?_push_size _ rfl⟩,fun h1 h2 p k=>k _ p⟩
end
def eLam (j:Nat) (x:Str) (t:LT):E:=fun _ S=>match S[j]? with
 | some (.tab x' q)=>if x'=x∧q=t.qual then some (.lam t,S) else none
 | _=>none
def zgu (K:Frag) (mg:Str→Option Value) (x:Str) (cdv:Value):Prop:=∃(f:Addr) (o:Obj) (fd:FuncData),mg x=some (.ref f)∧K.lookup f=some o∧o.data=.func fd∧fd.code=cdv
def BltB (base:Heap) (mg:Str→Option Value):Prop:=∃(bm:Addr) (o:Obj),mg "__builtins__"=some (.ref bm)∧bm≠builtinsNs∧bm≠mainGlobals∧base.get? bm=some o∧o.cls=.type "module"∧o.dict=some builtinsNs∧o.data=.plain
section
variable {X:Cx}{x:Str}{params:Arguments}{body:Expr}{scope:Scope}{pos:Pos}
theorem zqp {K mg ρ H}{S:Sto} (hS:StOk K mg ρ H S) {j:Nat}{P c:Addr}{x q:Str}{ps:Array Value}{a b:Int} (hj:S[j]? = some (.tab x q)) (hP:ρ[j]? = some P) (hps:H P=some (.tbl ps)) (hn:H c=none) :
   Ext ρ H ρ (upd (upd H P (.tbl (ps++#[rawInt a,rawInt b,.ref c]))) c (.ext (zeb c q)))∧StOk K mg ρ (upd (upd H P (.tbl (ps++#[rawInt a,rawInt b,.ref c]))) c (.ext (zeb c q))) S:=by
 have cf:c∉ρ:=hS.fresh hn
 have hPc:P≠c:=fun z=>cf (z ▸ List.mem_of_getElem? hP)
 have e0:Ext ρ H ρ (upd (upd H P (.tbl (ps++#[rawInt a,rawInt b,.ref c]))) c (.ext (zeb c q))) :=
   ⟨fun _ _ e=>e,fun d u e n=>by
     rw [zba (a:=c) (fun (z:d=c)=>by rw [z,hn] at e;cases e),zba (a:=P) (fun (z:d=P)=>n (by rw [z];exact List.mem_of_getElem? hP))]
     exact e,fun _ z n=>absurd z n⟩
 refine ⟨e0,hS.len,hS.nd,fun i m d e1 e2=>?_⟩
 by_cases hi:i=j
 · subst hi
   rw [hj] at e1;cases e1
   rw [hP] at e2;cases e2
   obtain ⟨T,ps',h1,h2,h3⟩:=hS.ob i _ P hj hP
   rw [hps] at h1;cases h1
   refine ⟨T,_,by rw [zba hPc,zbj],by rw [Array.toList_append];exact TriplesOk_snoc a b _ _ h2,fun pos cv z=>?_⟩
   rw [Array.toList_append] at z
   rcases ztw _ h2 z with y | y
   · obtain ⟨c',z1,z2,z3⟩:=h3 pos cv y
     exact ⟨c',z1,z2,e0.keep _ _ z3 z2⟩
   · exact ⟨c,y,cf,zbj⟩
 · have q:=hS.ob i m d e1 e2
   obtain ⟨u,z⟩:=q.some
   exact q.mono e0 (by rw [zba (a:=c) (fun (y:d=c)=>by rw [y,hn] at z;cases z),zba (a:=P) (fun (y:d=P)=>hi (zrb hS.nd (by rw [e2,y]) hP))])
theorem fe_lamG (j:Nat) {caps:List Str}{cl:List (Str×Addr)} (hcd:zgu X.K X.mg x X.env.code) (hb:BltB X.base X.mg) (hcl:closureFor scope X.env=pure cl) (hdef:defaultsOf params X.env=([],[]):=by rfl) :
   FE X (.Lambda params body scope pos) (eLam j x ⟨params,body,scope,X.env.qual++"<lambda>",caps,cl⟩):=by
 intro pins s σ H Q I h
 obtain ⟨ρ,ev,S,d,S',hE,hS,hf,k⟩:=h
 unfold eLam at hf
 split at hf
 · rename_i x' q hj
   split at hf
   · rename_i hxq
     obtain ⟨rfl,rfl⟩:=hxq
     cases hf
     obtain ⟨P,hP,T,ps,hps,htr,hcs⟩:=hS.adr hj
     obtain ⟨f1,o1,fd1,c1,e1,e2,e3,e4,e5⟩:=T
     obtain ⟨f2,o2,fd2,g1,g2,g3,g4⟩:=hcd
     rw [e1] at g1;cases g1
     rw [e2] at g2;cases g2
     rw [e3] at g3;cases g3
     have hcode:X.env.code=.ref c1:=g4.symm.trans e4
     have C:CodeHd s.heap c1 P:=codeHd_of_K I.kIn e5
     have hPt:s.heap.get? P=some (tabObj ps):=I.hok P _ hps
     have bs:=I.bs
     have nP:∀b o,X.base.get? b=some o→b≠P:=fun b o e z=>by
       have:=(bs b o e).2
       rw [z,hps] at this;cases this
     have hg:s.heap.Ns mainGlobals X.mg:=by
       obtain ⟨o,es,ep,ho,r⟩:=I.mod.glob
       exact ⟨o,es,ep,I.bk _ _ ho,r⟩
     have hgP:mainGlobals≠P:=by
       obtain ⟨o,es,ep,ho,r⟩:=I.mod.glob
       exact nP _ _ ho
     obtain ⟨bm,ob,b1,b2,b3,b4,b5,b6,b7⟩:=hb
     have hBA:s.heap.BuiltinsAt X.mg P:=⟨bm,ob,b1,b2,b3,nP _ _ b4,I.bk _ _ b4,b5,b6,b7⟩
     refine kla_eval hdef ?_
     cases hca:codeAmong pos ps.toList with
     | none =>
       refine kla_makeFunction hcl I.ok.glob hg hcode C hPt htr hca hgP hBA fun c' ctv h' tk hx hge hlt hrec htb=>?_
       have hn:H c'=none:=I.hok.fresh hge
       have I1:=zwi (q:=X.env.qual++"<lambda>") (tk:=tk) I hps hx htb hge hrec
       have I2:=zwk (t:=⟨params,body,scope,X.env.qual++"<lambda>",caps,cl⟩) (c:=c') (pm:=(X.mg "__name__").getD .none) (ct:=ctv) (h':=h') (tk:=tk) I1 (fun _ _ e=>e) (Nat.le_refl _)
       obtain ⟨E1,S1⟩:=zqp (a:=pos.line) (b:=pos.col) hS hj hP hps hn
       have hf:=I1.hok.fresh (a:=h'.objs.size) (Nat.le_refl _)
       have E2:=zbv S1 (.ext (lamP ⟨params,body,scope,X.env.qual++"<lambda>",caps,cl⟩ h'.objs.size c' ((X.mg "__name__").getD .none) ctv)) hf
       refine ⟨.ref h'.objs.size,_,I2,rfl,k _ ρ _ (E1.trans E2) (S1.new _ hf) ?_⟩
       unfold Rep
       exact ⟨_,rfl,S1.fresh hf,c',_,_,hS.fresh hn,zbj,by rw [zba (Nat.ne_of_lt hlt),zbj]⟩
     | some cv =>
       obtain ⟨c',rfl,nc,hc'⟩:=hcs pos cv hca
       refine kla_makeFunctionHit hcl I.ok.glob hg hcode C hPt htr hca hBA fun ctv h' tk hk hsz=>?_
       have hf:H h'.objs.size=none:=I.hok.fresh hsz
       have I2:=zwk (t:=⟨params,body,scope,X.env.qual++"<lambda>",caps,cl⟩) (c:=c') (pm:=(X.mg "__name__").getD .none) (ct:=ctv) (h':=h') (tk:=tk) I hk hsz
       have E2:=zbv hS (.ext (lamP ⟨params,body,scope,X.env.qual++"<lambda>",caps,cl⟩ h'.objs.size c' ((X.mg "__name__").getD .none) ctv)) hf
       refine ⟨.ref h'.objs.size,_,I2,rfl,k _ ρ _ E2 (hS.new _ hf) ?_⟩
       unfold Rep
       exact ⟨_,rfl,hS.fresh hf,c',_,_,nc,zbj,E2.keep _ _ hc' nc⟩
   · cases hf
 · cases hf
end
def ztv (N n:Nat) (f:E):G:=fun ds S=>if ds.length=n then f (ds.map some++List.replicate (N - ds.length) none) S else none
def LamH (t:LT) (a c:Addr) (pm ct:Value) (H:Hp):Prop:=H a=some (.ext (lamP t a c pm ct))∧H c=some (.ext (zeb c t.qual))
section
variable {P:Program}{w:World}{K:Frag}{mg:Str→Option Value}{base:Heap}{k:Nat}{t:LT}{N ps:List Str}{f:E}
structure LCal (P:Program) (w:World) (K:Frag) (mg:Str→Option Value) (base:Heap) (k:Nat) (t:LT) (g:G):Prop where
 ex:∃ps:List Str,(∀(a c:Addr) (pm ct:Value),FnOk P w K mg base CX0 k a (kla_fn "<lambda>" t.qual t.params t.body t.scope [] pm (.ref c) ct) ps (fun vs H Q E=>LamH t a c pm ct H∧spG K mg g vs H Q E)) ∧
   ∀(c:Addr) (pm ct:Value),Binds K (kla_fn "<lambda>" t.qual t.params t.body t.scope [] pm (.ref c) ct) ps []
theorem LCal.mono {j:Nat}{g:G} (c:LCal P w K mg base j t g) (h:j≤k):LCal P w K mg base k t g :=
 let ⟨ps,F,b⟩:=c.ex;⟨ps,fun a c pm ct=>(F a c pm ct).mono h,b⟩
end
def zeo (ft:Str→Option G) (lt:LT→Option G) (f:E) (a:As):E:=fun ev S=>(f ev S).bind fun p=>match p.1 with
 | .fn x=>(ft x).bind fun g=>(a ev p.2).bind fun q=>g q.1 q.2
 | .lam t=>(lt t).bind fun g=>(a ev p.2).bind fun q=>g q.1 q.2
 | _=>none
section
variable {X:Cx}{k:Nat}{f:E}{a:As}{e:Expr}{es:List Expr}{pos:Pos}
theorem zfq {fe:Expr}{ft:Str→Option G}{lt:LT→Option G} (hT:∀x g,ft x=some g→Cal X.prog X.w X.K X.mg X.base k x g) (hL:∀t g,lt t=some g→LCal X.prog X.w X.K X.mg X.base k t g) (hr:Room k X.A) (hf:FE X fe f) (ha:FA X (e::es) a)
   (ht:eval (.Call fe (e::es) [] pos) X.env=(eval fe X.env >>= fun v=>callWith pos v [] (backTo pos (starEach (e::es) X.env)) (backToKw pos (keywordEach [] X.env))):=by rfl)
   (he:starEach (e::es) X.env=(false,eval e X.env)::starEach es X.env:=by exact zay rfl) (hpl:(backTo pos (starEach es X.env)).any (·.1)=false:=by exact zca rfl) :
   FE X (.Call fe (e::es) [] pos) (zeo ft lt f a):=by
 intro pins s σ H Q I h
 obtain ⟨ρ,ev,S,d,S',hE,hS,hf',kk⟩:=h
 obtain ⟨⟨y,S1⟩,q1,hf'⟩:=zaq hf'
 cases y with
 | fn x =>
   refine fe_callV (ft:=ft) hT hr hf ha ht he hpl pins s σ H Q I ⟨ρ,ev,S,d,S',hE,hS,?_,kk⟩
   unfold eCallV
   rw [q1]
   exact hf'
 | lam t =>
   rw [ht]
   dsimp only at hf'
   obtain ⟨g,hx,hf'⟩:=zaq hf'
   obtain ⟨⟨ds,S2⟩,q2,hf'⟩:=zaq hf'
   obtain ⟨ps,F,hb⟩:=(hL t g hx).ex
   refine wpAny_bind (thn (hf pins s σ H (fun v H1=>∃ρ1 a0,v=.ref a0∧Ext ρ H ρ1 H1∧StOk X.K X.mg ρ1 H1 S1∧LamAt ρ1 H1 t a0) I ⟨ρ,ev,S,_,S1,hE,hS,q1,fun v ρ1 H1 E1 hS1 r1=>?_⟩) fun u s1 ⟨v,H1,I1,rv,ρ1,a0,ev1,E1,hS1,L1⟩=>?_)
   · unfold Rep at r1
     obtain ⟨b,rfl,L⟩:=r1
     exact ⟨ρ1,b,rfl,E1,hS1,L⟩
   · subst ev1
     obtain rfl:u=Value.ref a0:=rv
     obtain ⟨n0,c,pm,ct,nc,hA,hC⟩:=L1
     have at_:∀{H':Hp}{s':Shared},Inv X pins σ H' s'→H' a0=some (.ext (lamP t a0 c pm ct))→FnAt a0 s'.heap:=fun J e=>⟨_,_,_,_,(J.hok a0 _ e).1⟩
     refine callWith_F (at_ I1 hA) (thn (ha pos pins s1 σ H1 (fun vs H2=>(H2 a0=some (.ext (lamP t a0 c pm ct)))∧(LamH t a0 c pm ct H2∧spG X.K X.mg g vs H2 Q E0)) I1 ⟨ρ1,ev,S1,ds,S2,hE.mono E1,hS1,q2,fun vs ρ2 H2 E2 hS2 r2=>?_⟩) fun us s2 ⟨vs,H2,I2,r,hA2,q2⟩=>⟨at_ I2 hA2,?_⟩) he hpl
     · have h1:=E2.keep _ _ hA n0
       have h2:=E2.keep _ _ hC nc
       exact ⟨h1,⟨h1,h2⟩,ρ2,ds,S2,d,S',r2,hS2,hf',fun v ρ' H' E' hS' r'=>kk v ρ' H' ((E1.trans E2).trans E') hS' r'⟩
     · exact zne (ds:=[]) (dvs:=[]) (F a0 c pm ct) hr (hb c pm ct) .nil zsy I2 r (by rw [List.append_nil];exact q2)
 | _=>cases hf'
end
end F
namespace F
open PySem L2 PySem.Spec PyProof.Rows PySem.W
def LawOkT (tabs:List (Str×Str)) (g:G):Prop:=∀ns:List Int,ns.length≤63→∃S,g [.lst (ns.map D.int)] (tabs.map fun p=>MO.tab p.1 p.2)=some (.bl true,S)
def H0 (ts:List Addr) (so:Option (Addr×HO)):Hp:=fun b=>if b∈ts then some (.tbl #[]) else match so with
 | some (a,o)=>if b=a then some o else none
 | none=>none
theorem zni {as:List Addr}:∀{K:Frag}{P:Addr},as=K.map (·.1)→P∉as→K.lookup P=none
 | [],_,_,_=>rfl
 | (b,o)::K,P,e,h=>by
   subst e
   rw [List.map_cons,List.mem_cons,not_or] at h
   have hb:(P == b)=false:=by simpa using h.1
   simp only [List.lookup,hb]
   exact zni rfl h.2
section
variable {P:Program}{w:World}{K:Frag}{mg mb:Str→Option Value}{k:Nat}{fa a:Addr}{fd:FuncData}{x:Str}{sp:Sp}{s₁:Shared}{vs:List Value}{ns:List Int}{ts:List Addr}
theorem zwb (KX:K.In s₁.heap) (hns:s₁.heap.Ns mainGlobals mg) (hb:s₁.heap.Ns builtinsNs mb) (hbb:∀x:Str,x≠"__name__"→mb x=bootBuiltins x) (hlim:s₁.heap.NoLimit) (hg:s₁.gens=#[])
   (ha:s₁.heap.get? a=some { cls:=.type "list",data:=.seq vs.toArray }) (hi:IntsAre vs ns) (hl:ns.length≤sizeLine) (hr:Room k callerA)
   (hts:∀Q∈ts,s₁.heap.get? Q=some (tabObj #[])∧K.lookup Q=none∧isCodeTable s₁.heap Q)
   (hbm:BltB s₁.heap mg) (F:∀base:Heap,K.In base→base.Ns mainGlobals mg→BltB base mg→FnOk P w K mg base CX0 k fa fd [x] sp) (hbind:∀(s:Shared) (u:Value),BindsTo s fd ⟨[u],[]⟩ [(x,u)])
   (hsp:∀so:Option (Addr×HO),a∉ts→SqL K (H0 ts so) a (ns.map V.int)→sp [.ref a] (H0 ts so) (fun v _=>v=.bl true) fun _ _ _=>False) :
   codeAny (model P w) callerA (.call (.ref fa) ⟨[.ref a],[]⟩) (fun r s'=>r=.ok (.ret (.bool true))∧OldK s₁.heap s'.heap∧s'.os=s₁.os∧AllBare s'.gens) s₁:=by
 have rv:=zmz hi
 have lenV:=hi.length
 have nat:a∉ts:=fun z=>by
   have e:=(hts a z).1
   rw [ha] at e;cases e
 have core:∀so:Option (Addr×HO),(∀b o,so=some (b,o)→b=a∧K.lookup a=none∧o=.frz { cls:=.type "list",data:=.seq vs.toArray } (.lst (ns.map V.int)))→SqL K (H0 ts so) a (ns.map V.int) →
     codeAny (model P w) callerA (.call (.ref fa) ⟨[.ref a],[]⟩) (fun r s'=>r=.ok (.ret (.bool true))∧OldK s₁.heap s'.heap∧s'.os=s₁.os∧AllBare s'.gens) s₁:=by
   intro so hso hS
   have cases3:∀b,H0 ts so b=none∨(b∈ts∧H0 ts so b=some (.tbl #[]))∨(b=a∧K.lookup a=none∧H0 ts so b=some (.frz { cls:=.type "list",data:=.seq vs.toArray } (.lst (ns.map V.int)))):=fun b=>by
     by_cases z:b∈ts
     · exact .inr (.inl ⟨z,if_pos z⟩)
     · cases so with
       | none=>exact .inl (if_neg z)
       | some p =>
         obtain ⟨c,o⟩:=p
         obtain ⟨h1,h2,h3⟩:=hso c o rfl
         by_cases y:b=c
         · refine .inr (.inr ⟨y.trans h1,h2,?_⟩)
           unfold H0
           rw [if_neg z]
           show (if b=c then some o else none)=_
           rw [if_pos y,h3]
         · refine .inl ?_
           unfold H0
           rw [if_neg z]
           exact if_neg y
   have hok:HOk P w (H0 ts so) s₁.heap:=fun b u e=>by
     rcases cases3 b with q | ⟨q1,q2⟩ | ⟨rfl,_,q2⟩
     · rw [q] at e;cases e
     · rw [q2] at e;cases e
       exact (hts b q1).1
     · rw [q2] at e;cases e
       exact ⟨ha,by rw [List.length_map];exact hl,vs,_,rv,ha⟩
   have free:∀{b:Addr}{o:Obj}{es:Array DictEntry}{ep:Nat},s₁.heap.get? b=some o→o.data=.dict es ep→H0 ts so b=none:=fun {b o es ep} e d=>by
     rcases cases3 b with q | ⟨q1,_⟩ | ⟨rfl,_,_⟩
     · exact q
     · rw [(hts b q1).1] at e;cases e;cases d
     · rw [ha] at e;cases e;cases d
   have nsK:∀{b:Addr}{m:Str→Option Value},s₁.heap.Ns b m→(hidT s₁.heap (H0 ts so)).Ns b m:=fun ⟨o,es,ep,e,d,r⟩=>⟨o,es,ep,zme e (free e d),d,r⟩
   have hKb:K.In (hidT s₁.heap (H0 ts so)):=fun b o e=>zme (KX b o e) (by
     rcases cases3 b with q | ⟨q1,_⟩ | ⟨rfl,q1,_⟩
     · exact q
     · rw [(hts b q1).2.1] at e;cases e
     · rw [q1] at e;cases e)
   have hM:Mod K mg (hidT s₁.heap (H0 ts so)):=⟨hKb,nsK hns,⟨mb,nsK hb,hbb⟩,let ⟨mc,h1,h2⟩:=hlim;⟨mc,nsK h1,h2⟩⟩
   have e0:Env0 P w K mg (hidT s₁.heap (H0 ts so)) callerA [] s₁ (H0 ts so):=⟨rfl,hM,fun b o e=>of_hidT e,Nat.le_of_eq (zwn _ _),trivial,fun b hb=>absurd (show b∈([]:List Addr) from hb) (by simp),hok,.of_eq hg⟩
   have hB:BltB (hidT s₁.heap (H0 ts so)) mg:=by
     obtain ⟨bm,ob,b1,b2,b3,b4,b5,b6,b7⟩:=hbm
     refine ⟨bm,ob,b1,b2,b3,zme b4 ?_,b5,b6,b7⟩
     rcases cases3 bm with q | ⟨q1,_⟩ | ⟨rfl,_,_⟩
     · exact q
     · rw [(hts bm q1).1] at b4;cases b4;cases b7
     · rw [ha] at b4;cases b4;cases b7
   refine codeAny_mono ((F _ hKb (nsK hns) hB).run callerA [] s₁ (H0 ts so) ⟨[.ref a],[]⟩ [.ref a] [.ref a] _ _ hr e0 (hbind s₁ (.ref a)) (.cons rfl .nil) (hsp so nat hS)) fun r s' h=>?_
   cases r with
   | error e=>exact False.elim h
   | ok fl =>
     cases fl with
     | next=>exact False.elim h
     | brk=>exact False.elim h
     | cont=>exact False.elim h
     | ret u =>
       obtain ⟨v,H',os,bare,un,hok',r',q⟩:=h
       obtain rfl:v=.bl true:=q
       obtain rfl:u=Value.bool true:=r'
       refine ⟨rfl,⟨fun b o e=>?_,fun b o e=>un.there b o e (by simp)⟩,os,bare⟩
       rcases cases3 b with q | ⟨q1,q2⟩ | ⟨_,_,q2⟩
       · exact .inl (un.keep b o e q (fun z=>absurd (show b∈([]:List Addr) from z) (by simp)) (by simp))
       · obtain ⟨more,z⟩:=un.tbls b _ q2
         have e1:=(hts b q1).1
         rw [e] at e1;cases e1
         exact .inr (.inl ⟨(hts b q1).2.2,rfl,#[],more,rfl,hok' b _ z⟩)
       · have z:=un.frzs b _ _ q2
         obtain ⟨e1,_⟩:=hok b _ q2
         obtain ⟨e2,_⟩:=hok' b _ z
         rw [e] at e1;cases e1
         exact .inl e2
 cases hk:K.lookup a with
 | some o =>
   have e:=KX a o hk
   rw [ha] at e
   cases e
   exact core none (fun b o z=>by cases z) (.inr ⟨_,vs.toArray,_,hk,rfl,rfl,rfl,by rw [List.size_toArray,lenV];exact hl,by simpa using rv⟩)
 | none =>
   refine core (some (a,.frz { cls:=.type "list",data:=.seq vs.toArray } (.lst (ns.map V.int)))) (fun b o z=>by cases z;exact ⟨rfl,hk,rfl⟩) (.inl (.inr ⟨{ cls:=.type "list",data:=.seq vs.toArray },?_⟩))
   unfold H0
   rw [if_neg nat]
   exact if_pos rfl
end
end F
namespace F
open PySem L2 PySem.Spec PyProof.Rows PySem.W
theorem ztu {K:Frag}{h:Heap}{c Q:Addr} (X:K.In h) (e:codeHdIn K c Q=true):isCodeTable h Q:=by
 obtain ⟨o,vs,_,_,_,_,_,_,_,h1,h2,h3,h4,_⟩:=codeHd_of_K X e
 exact ⟨c,o,vs,h1,h2,h3,h4⟩
theorem law_walkT {l:OpenLaw}{q:Program}{loose:List Str}{XP:(Str→Option Value)→Heap→Prop}{d:DefRec}{K:Params→Frag}{as:List Addr}{e:∀P,as=(K P).map (·.1)}{ts:List Addr}{k:Nat}{g:G}{x:Str} (tabs:List (Str×Str))
   (hn:l.most=some 63) (hdf:d.params.defaults=[]) (hr:Room k callerA) (hts:ts.Nodup) (has:∀Q∈ts,Q∉as) (hlen:ts.length=tabs.length) (hg:LawOkT tabs g)
   (F:∀(w:World) (mg:Str→Option Value) (fa:Addr) (h:Heap),(K w.params).In h→h.Ns mainGlobals mg→mg d.name=some (.ref fa) →
     (∀(i:Nat) (p:Str×Str) (Q:Addr),tabs[i]? = some p→ts[i]? = some Q→TabOf (K w.params) mg p.1 Q) ∧
     ∃fd:FuncData,(∀(s:Shared) (u:Value),BindsTo s fd ⟨[u],[]⟩ [(x,u)])∧∀base:Heap,(K w.params).In base→base.Ns mainGlobals mg→BltB base mg→FnOk l.prog w (K w.params) mg base CX0 k fa fd [x] (spG (K w.params) mg g)) :
   WalkO q loose XP (kmHook K as e ts).says l.row.toRowW d [] (fun f vs=>PySem.call f vs):=by
 refine Att.attach_call hn hdf fun w s₀ s₁ mg mb fa o pm cd doc a vs ns G Y ho hd hcd hmg hobj hints hlen' hg'=>?_
 have KX:=km_in_of Y
 have TX:=km_tabs_of Y
 obtain ⟨T,fd,hb,hF⟩:=F w mg fa _ KX G.T.g hmg
 have hbm:BltB s₁.heap mg:=by
   obtain ⟨bm,ob,b1,b2,b3,b4,b5,b6⟩:=G.T.bmain
   refine ⟨bm,ob,b1,b2,fun q=>?_,b3,b4,b5,b6⟩
   obtain ⟨o,es,ep,e,hd,_⟩:=G.T.g
   rw [q,e] at b3;cases b3;rw [hd] at b6;cases b6
 refine zwb (k:=k) (fd:=fd) (x:=x) (ts:=ts) (sp:=spG (K w.params) mg g) KX G.T.g G.T.b G.T.builtins G.T.nolimit hg' hobj hints (Nat.le_trans hlen' (by decide)) hr (fun Q hQ=>⟨TX Q hQ,zni (e w.params) (has Q hQ),?_⟩) hbm hF hb fun so nat hS=>?_
 · obtain ⟨i,hi,ei⟩:=List.getElem_of_mem hQ
   obtain ⟨f,o,fd,c,_,_,_,_,z⟩:=T i (tabs[i]'(by omega)) Q (List.getElem?_eq_getElem (by omega)) (by rw [List.getElem?_eq_getElem hi,ei])
   exact ztu KX z
 · obtain ⟨S,hS'⟩:=hg ns hlen'
   have tb:∀Q∈ts,H0 ts so Q=some (.tbl #[]):=fun Q hQ=>if_pos hQ
   refine ⟨ts,[.lst (ns.map D.int)],tabs.map fun p=>MO.tab p.1 p.2,.bl true,S,?_,⟨by rw [List.length_map];exact hlen,hts,fun i m b e1 e2=>?_⟩,hS',fun v ρ' H' _ _ r=>by rw [show v=.bl true from r]⟩
   · refine RepL.cons ?_ RepL.nil
     unfold Rep
     refine ⟨a,ns.map V.int,rfl,?_,zqt ns⟩
     rcases hS with hS | hS
     · exact .inl ⟨nat,hS⟩
     · exact .inr hS
   · rw [List.getElem?_map] at e1
     cases hp:tabs[i]? with
     | none=>rw [hp] at e1;cases e1
     | some p =>
       rw [hp] at e1;cases e1
       exact ⟨T i p b hp e2,#[],tb b (List.mem_of_getElem? e2),trivial,fun pos cv z=>by cases z⟩
end F
namespace F
open PySem L2 PySem.Spec PyProof.Rows PySem.W
section
variable {P:Program}{w:World}{K:Frag}{mg:Str→Option Value}{base:Heap}{x qual:Str}{st:Stmt}{N ps:List Str}{k:Nat}{b:C}{dV:Value}{f:Addr}{fd:FuncData}
theorem FunD.code (F:FunD K x qual st f fd dV) {y:Str} (hm:mg y=some (.ref f)):zgu K mg y fd.code:=by
 obtain ⟨oc,od,kV,doc,pm,an,cdv,ct,osl,rfl,lk,hcd⟩:=F.ex
 exact ⟨f,_,_,hm,lk,rfl,rfl⟩
theorem FunD.okL (F:FunD K x qual st f fd dV) {y:Str} (hm:mg y=some (.ref f)) (S:FnScope N ps (zab st))
   (hbody:∀(cdv:Value),zgu K mg y cdv→∀(A:Around) (outer:List Env) (s:Shared) (H:Hp) (E:XK),Room k (A.deeper (envOfC qual (zab st) s.heap.objs.size f cdv)) →
     FSs (cxOf CX0 P w K mg base N qual (zab st) f cdv A outer s H E).nox (zam st) b):FnOk P w K mg base CX0 (k + 1) f fd ps (spG K mg (zaz N.length ps.length b)):=by
 have co:=F.code hm
 obtain ⟨oc,od,kV,doc,pm,an,cdv,ct,osl,rfl,lk,hcd⟩:=F.ex
 refine fn_of lk hcd S (fun vs H Q E h=>?_) fun A outer s H vs Q E hr hsp=>?_
 · obtain ⟨ρ,ds,S,d,S',r,hS,hf,k⟩:=h
   rw [← r.length];exact zjm hf
 · exact ⟨_,(hbody cdv co A outer s H E hr).nox,zqa hsp⟩
abbrev BodyL (P:Program) (w:World) (K:Frag) (mg:Str→Option Value) (base:Heap) (N:List Str) (x qual:Str) (st:Stmt) (k:Nat) (b:C):Prop :=
 ∀(f:Addr) (cdv:Value),zgu K mg x cdv→∀(A:Around) (outer:List Env) (s:Shared) (H:Hp) (E:XK),Room k (A.deeper (envOfC qual (zab st) s.heap.objs.size f cdv)) →
     FSs (cxOf CX0 P w K mg base N qual (zab st) f cdv A outer s H E).nox (zam st) b
theorem HasDef.calL (h:HasDef K mg x st 0) (S:FnScope N ps (zab st)) (hb:Bnd0 x x st ps) (hbody:BodyL P w K mg base N x x st k b):Cal P w K mg base (k + 1) x (zaz N.length ps.length b):=by
 obtain ⟨f,fd,dV,F,hm,rfl⟩:=h.ex
 exact ⟨f,fd,ps,[],[],[],_,F.okL hm S fun cdv co A outer s H E hr=>hbody f cdv co A outer s H E hr,hm,F.kp,F.binds0 hb,.nil,fun _ _=>RepL.nil,fun args S r e=>by rw [List.append_nil];exact e⟩
end
section
variable {K:Frag}{h:Heap}{mg:Str→Option Value} (X:K.In h) (G:h.Ns mainGlobals mg)
include X G
theorem has_tab {x:Str}{st:Stmt}{f c Q:Addr}{oc:Value}{od an:Option Addr}{osl:Array (Option Value)}{dV kV doc pm ct:Value} (a:nsIn K mainGlobals x=some (some (.ref f)))
   (l:K.lookup f=some ⟨oc,od,.func (fnOf x x (zgd st) (zam st) (zab st) dV kV doc pm an (.ref c) ct),osl⟩) (z:codeHdIn K c Q=true):TabOf K mg x Q :=
 ⟨f,_,_,c,mg_of X G a,l,rfl,rfl,z⟩
end
end F
namespace F
open PySem L2 PySem.Spec PySem.Calls PyProof.Rows PySem.W
def cxC (P:Program) (w:World) (K:Frag) (mg:Str→Option Value) (base:Heap) (N:List Str) (qual:Str) (scope:Scope) (f:Addr) (cd:Value) (cl:List (Str×Addr)) (A:Around) (outer:List Env) (s:Shared) (H H1:Hp) (E:XK):Cx where
 prog:=P
 w:=w
 K:=K
 mg:=mg
 base:=base
 A:=A.deeper (envX qual scope s.heap.objs.size f cd cl)
 N:=N
 s₀:=s
 H₀:=H1
 env:=envX qual scope s.heap.objs.size f cd cl
 outer:=outer
 stack:=envX qual scope s.heap.objs.size f cd cl::outer
 ex:=[]
 calm:=true
 fn:=fun _=>false
 pn:=[]
 xe:=fun e s'=>wpAny (model P w) (A.deeper (envX qual scope s.heap.objs.size f cd cl)) (leaving (envX qual scope s.heap.objs.size f cd cl) e) (fun _ s''=>CX0 outer H s E e s'') (fun e' s''=>CX0 outer H s E e' s'') s'
def offC (H:Hp) (cl:List (Str×Addr)):Hp:=fun b=>if b∈cl.map (·.2) then none else H b
theorem zha {H:Hp}{cl:List (Str×Addr)}{b:Addr} (h:b∈cl.map (·.2)):offC H cl b=none:=if_pos h
theorem zcg {H:Hp}{cl:List (Str×Addr)}{b:Addr} (h:b∉cl.map (·.2)):offC H cl b=H b:=if_neg h
theorem Cells.at {ρ:List Addr}{H:Hp}:∀{xs:List Str}{us:List V}{cl:List (Str×Addr)},Cells ρ H xs us cl→∀b∈cl.map (·.2),∃o w,H b=some (.frz o (.own 0))∧o.data=.cell (some w)
 | [],[],[],_,b,hb=>by cases hb
 | x::xs,u::us,p::cl,h,b,hb=>by
   rw [List.map_cons] at hb
   rcases List.mem_cons.mp hb with rfl | hb
   · obtain ⟨_,_,⟨o,w,h3,h4,_⟩,_⟩:=h
     exact ⟨o,w,h3,h4⟩
   · exact Cells.at h.2.2.2 b hb
 | [],[],_::_,h,_,_=>h.elim
 | [],_::_,_,h,_,_=>h.elim
 | _::_,[],_,h,_,_=>h.elim
 | _::_,_::_,[],h,_,_=>h.elim
theorem zpm {P:Program}{w:World}{H:Hp}{h:Heap}{cl:List (Str×Addr)} (x:HOk P w H h) (hc:∀b∈cl.map (·.2),∃o,H b=some (.frz o (.own 0))):HOk P w (offC H cl) h:=fun b u e=>by
 by_cases z:b∈cl.map (·.2)
 · rw [zha z] at e;cases e
 · rw [zcg z] at e
   refine (x b u e).stay (fun _ _ _ q=>q) (fun d q=>?_) fun d xs q=>?_
   · rw [zcg (fun y=>by obtain ⟨o,y'⟩:=hc d y;rw [q] at y';cases y')];exact q
   · rw [zcg (fun y=>by obtain ⟨o,y'⟩:=hc d y;rw [q] at y';cases y')];exact q
theorem zds {H:Hp}{cl:List (Str×Addr)}{b:Addr} (h:H b=none):offC H cl b=none:=by
 unfold offC
 split
 · rfl
 · exact h
theorem Cells.names {ρ:List Addr}{H:Hp}:∀{xs:List Str}{us:List V}{cl:List (Str×Addr)},Cells ρ H xs us cl→cl.map (·.1)=xs∧us.length=xs.length
 | [],[],[],_=>⟨rfl,rfl⟩
 | x::xs,u::us,p::cl,h=>by
   obtain ⟨h1,h2⟩:=Cells.names h.2.2.2
   exact ⟨by rw [List.map_cons,h1,h.1],by rw [List.length_cons,List.length_cons,h2]⟩
 | [],[],_::_,h=>h.elim
 | [],_::_,_,h=>h.elim
 | _::_,[],_,h=>h.elim
 | _::_,_::_,[],h=>h.elim
theorem Cells.get {ρ:List Addr}{H:Hp}:∀{xs:List Str}{us:List V}{cl:List (Str×Addr)},Cells ρ H xs us cl→xs.Nodup→∀(i:Nat) (x:Str) (u:V),xs[i]? = some x→us[i]? = some u→∃b o w,cl.lookup x=some b∧H b=some (.frz o (.own 0))∧o.data=.cell (some w)∧RelV u w
 | x::xs,u::us,p::cl,h,nd,0,y,v,e1,e2=>by
   cases e1;cases e2
   obtain ⟨h1,_,⟨o,w,h3,h4,h5⟩,_⟩:=h
   exact ⟨p.2,o,w,by obtain ⟨a,b⟩:=p;subst h1;simp [List.lookup],h3,h4,h5⟩
 | x::xs,u::us,p::cl,h,nd,i + 1,y,v,e1,e2=>by
   obtain ⟨b,o,w,z1,z2⟩:=Cells.get h.2.2.2 (List.nodup_cons.mp nd).2 i y v e1 e2
   have ne:(y == p.1)=false:=by
     rw [h.1]
     refine beq_false_of_ne fun z=>(List.nodup_cons.mp nd).1 ?_
     rw [← z]
     exact List.mem_of_getElem? e1
   refine ⟨b,o,w,?_,z2⟩
   obtain ⟨a,c⟩:=p
   simp only [List.lookup,ne]
   exact z1
 | [],[],[],_,_,_,_,_,e1,_=>by cases e1
 | [],[],_::_,h,_,_,_,_,_,_=>h.elim
 | [],_::_,_,h,_,_,_,_,_,_=>h.elim
 | _::_,[],_,h,_,_,_,_,_,_=>h.elim
 | _::_,_::_,[],h,_,_,_,_,_,_=>h.elim
structure CloScope (ps caps:List Str) (sc:Scope):Prop where
 kind:sc.kind=.function
 co:sc.isCoroutine=false
 gen:sc.isGenerator=false
 nd:(ps++caps).Nodup
 par:∀x∈ps,sc.names.lookup x=some .local
 cap:∀x∈caps,sc.names.lookup x=some .free
 nocell:∀y∈sc.names,y.2≠.cell
 fre:∀y∈sc.names,y.2=.free→y.1∈caps
theorem zki:∀{ps:List Str}{us:List Value}{i:Nat}{x:Str}{u:Value},ps.Nodup→ps[i]? = some x→us[i]? = some u→(ps.zip us).reverse.lookup x=some u
 | [],_,_,_,_,_,e,_=>by cases e
 | p::ps,[],i,x,u,_,_,e=>by cases e
 | p::ps,w::us,i,x,u,nd,e1,e2=>by
   rw [List.zip_cons_cons,List.reverse_cons,List.lookup_append]
   cases i with
   | zero =>
     cases e1;cases e2
     have:(ps.zip us).reverse.lookup p=none:=by
       rw [List.lookup_eq_none_iff]
       intro q hq
       have:=(List.of_mem_zip (a:=q.1) (b:=q.2) (List.mem_reverse.mp hq)).1
       simpa using fun (z:p=q.1)=>(List.nodup_cons.mp nd).1 (z ▸ this)
     rw [this]
     simp [List.lookup]
   | succ i =>
     rw [zki (List.nodup_cons.mp nd).2 e1 e2]
     rfl
theorem zti {P:Program}{w:World}{K:Frag}{mg:Str→Option Value}{base:Heap}{ps caps:List Str}{qual:Str}{scope:Scope}{f:Addr}{cd:Value}{cl:List (Str×Addr)}{A:Around}{outer:List Env}{s:Shared}{H:Hp}{E:XK}{us:List Value}{vs cs:List V}{ρ:List Addr}{h':Heap}{tk:Nat}
   (S:CloScope ps caps scope) (hd:A.handled=none) (e0:Env0 P w K mg base A outer s H) (hl:vs.length=ps.length) (r:Vals vs us) (hc:Cells ρ H caps cs cl) (hcn:(cl.map (·.2)).Nodup)
   (hns:h'.Ns s.heap.objs.size (fun x=>(ps.zip us).reverse.lookup x)) (hk:∀b o,s.heap.get? b=some o→h'.get? b=some o) :
   Inv (cxC P w K mg base (ps++caps) qual scope f cd cl A outer s H (offC H cl) E) [] ((vs++cs).map some) (offC H cl) { s with heap:=h',toks:=tk }:=by
 have noA:∀b:Addr,b∉(cxC P w K mg base (ps++caps) qual scope f cd cl A outer s H (offC H cl) E).ex:=fun b z=>absurd (show b∈([]:List Addr) from z) (by simp)
 have hnm:=hc.names
 have mem:∀{x:Str}{c:Addr},cl.lookup x=some c→(x,c)∈cl:=fun h=>mem_of_lookup_some h
 have hcf:∀b∈cl.map (·.2),∃o,H b=some (.frz o (.own 0)):=fun b hb=>let ⟨o,_,h1,_⟩:=hc.at b hb;⟨o,h1⟩
 refine ⟨⟨e0.mod,S.kind,rfl,rfl,Nat.le_refl _,fun y z c h1 h2=>?_,fun y hy=>?_,fun y c h _=>(by cases h),fun _=>hd,Around.frames_deeper e0.frames,.inr ⟨rfl,rfl⟩,fun b z=>absurd z (noA b),fun b o e=>⟨(e0.bs b o e).1,zds (e0.bs b o e).2⟩,e0.bsz,fun b _ _=>noA b,fun b z=>absurd z (noA b),e0.funs,fun b hb=>zds (e0.frf b hb)⟩,
   rfl,e0.bare,Un.kept hk,⟨_,hns,fun i y v h1 h2 h3=>?_⟩,fun y c h=>?_,zds (e0.hok.fresh (Nat.le_refl _)),fun y c h=>zha (List.mem_map_of_mem (mem h)),fun p hp=>absurd (show p∈([]:List (Addr×Obj)) from hp) (by simp),(zpm e0.hok hcf).kept hk,?_⟩
 · have m1:=mem h1
   have m2:=mem h2
   obtain ⟨i,hi,ei⟩:=List.getElem_of_mem m1
   obtain ⟨j,hj,ej⟩:=List.getElem_of_mem m2
   have:i=j:=(List.getElem_inj (i:=i) (j:=j) (h₀:=by simpa using hi) (h₁:=by simpa using hj) hcn).mp (by simp [ei,ej])
   subst this
   rw [ei] at ej
   exact congrArg Prod.fst ej
 · have hy:scope.names.lookup y=some .cell∨scope.names.lookup y=some .free:=hy
   rcases hy with hy | hy
   · exact absurd rfl (S.nocell _ (PySem.mem_of_lookup hy))
   · have hm:y∈caps:=S.fre _ (PySem.mem_of_lookup hy) rfl
     obtain ⟨i,hi,ei⟩:=List.getElem_of_mem hm
     obtain ⟨b,o,w,z,_⟩:=hc.get ((List.nodup_append.mp S.nd).2.1) i y (cs[i]'(by omega)) (by rw [List.getElem?_eq_getElem hi,ei]) (List.getElem?_eq_getElem _)
     exact ⟨b,z⟩
 · rw [List.getElem?_map] at h2
   have h1:(ps++caps)[i]? = some y:=h1
   by_cases hi:i < ps.length
   · rw [List.getElem?_append_left hi] at h1
     rw [List.getElem?_append_left (by omega)] at h2
     cases hv:vs[i]? with
     | none=>rw [hv] at h2;cases h2
     | some a =>
       rw [hv] at h2;cases h2
       obtain ⟨u,hu,ru⟩:=r.get hv
       exact ⟨u,ru,.inl ⟨S.par y (List.mem_of_getElem? h1),zki (List.nodup_append.mp S.nd).1 h1 hu⟩⟩
   · rw [List.getElem?_append_right (by omega)] at h1
     rw [List.getElem?_append_right (by omega),hl] at h2
     cases hv:cs[i - ps.length]? with
     | none=>rw [hv] at h2;cases h2
     | some a =>
       rw [hv] at h2;cases h2
       obtain ⟨b,o,w,z1,z2,z3,z4⟩:=hc.get (List.nodup_append.mp S.nd).2.1 _ y _ h1 hv
       exact ⟨w,z4,.inr ⟨.inr (S.cap y (List.mem_of_getElem? h1)),b,z1,o,hk _ _ (e0.hok b _ z2).1,z3⟩⟩
 · obtain ⟨o,w,z2,z3⟩:=hc.at c (List.mem_map_of_mem (mem h))
   exact ⟨some w,o,hk _ _ (e0.hok c _ z2).1,z3⟩
 · show ((vs++cs).map some).length=(ps++caps).length
   rw [List.length_map,List.length_append,List.length_append,hl,hnm.2]
def onC (H H0:Hp) (cl:List (Str×Addr)):Hp:=fun b=>if b∈cl.map (·.2) then H0 b else H b
theorem zfs {H H0:Hp}{cl:List (Str×Addr)}{b:Addr} (h:b∈cl.map (·.2)):onC H H0 cl b=H0 b:=if_pos h
theorem zbn {H H0:Hp}{cl:List (Str×Addr)}{b:Addr} (h:b∉cl.map (·.2)):onC H H0 cl b=H b:=if_neg h
theorem un_on {fs:List Addr}{H H':Hp}{h h':Heap}{cl:List (Str×Addr)} (u:Un fs [] (offC H cl) H' h h') (hc:∀b∈cl.map (·.2),∃o,H b=some (.frz o (.own 0))):Un fs [] H (onC H' H cl) h h':=by
 have out:∀b,H b=none→b∉cl.map (·.2):=fun b n z=>by obtain ⟨o,y⟩:=hc b z;rw [n] at y;cases y
 refine ⟨fun b o e n hb hx=>u.keep b o e (zds n) hb hx,fun b o e n hb hx=>u.slot b o e (zds n) hb hx,fun b o e n hx=>?_,u.there,fun b xs e=>?_,fun b o v e=>?_,fun b ps e=>?_⟩
 · rw [zbn (out b n)];exact u.free b o e (zds n) hx
 · have z:b∉cl.map (·.2):=fun z=>by obtain ⟨o,y⟩:=hc b z;rw [e] at y;cases y
   rw [zbn z];exact u.tups b xs (by rw [zcg z];exact e)
 · by_cases z:b∈cl.map (·.2)
   · rw [zfs z];exact e
   · rw [zbn z];exact u.frzs b o v (by rw [zcg z];exact e)
 · have z:b∉cl.map (·.2):=fun z=>by obtain ⟨o,y⟩:=hc b z;rw [e] at y;cases y
   obtain ⟨more,q⟩:=u.tbls b ps (by rw [zcg z];exact e)
   exact ⟨more,by rw [zbn z];exact q⟩
theorem hok_on {P:Program}{w:World}{fs:List Addr}{H H':Hp}{h h':Heap}{cl:List (Str×Addr)} (u:Un fs [] (offC H cl) H' h h') (x0:HOk P w H h) (x:HOk P w H' h') (hc:∀b∈cl.map (·.2),(∃o,H b=some (.frz o (.own 0)))∧b∉fs):HOk P w (onC H' H cl) h':=fun b v e=>by
 have nn:∀d∈cl.map (·.2),H' d=none:=fun d hd=>by
   obtain ⟨⟨o,z⟩,_⟩:=hc d hd
   exact u.free d o (x0 d _ z).1 (zha hd) (by simp)
 by_cases z:b∈cl.map (·.2)
 · rw [zfs z] at e
   obtain ⟨⟨o,y⟩,nf⟩:=hc b z
   rw [y] at e;cases e
   have:=u.keep b o (x0 b _ y).1 (zha z) nf (by simp)
   exact ⟨this,⟨o,this⟩⟩
 · rw [zbn z] at e
   refine (x b v e).stay (fun _ _ _ q=>q) (fun d q=>?_) fun d xs q=>?_
   · rw [zbn (fun y=>by rw [nn d y] at q;cases q)];exact q
   · rw [zbn (fun y=>by rw [nn d y] at q;cases q)];exact q
end F
namespace F
open PySem L2 PySem.Spec PySem.Calls PyProof.Rows PySem.W
mutual
def noC:D→Bool
 | .tup ds=>noCL ds
 | .lst ds=>noCL ds
 | .clo _ _=>false
 | _=>true
def noCL:List D→Bool
 | []=>true
 | d::ds=>noC d && noCL ds
end
def noCM:MO→Bool
 | .lst ds=>noCL ds
 | .ins _ fs=>noCL (fs.map (·.2))
 | .dct kvs=>noCL (kvs.map (·.2))
 | .exc _=>true
 | .tab _ _=>true
def noCS (S:Sto):Bool:=S.all noCM
section
variable {K:PySem.W.Frag}{mg:Str→Option Value}{ρ ρ':List Addr}{H H':Hp}{S S1:Sto}{cl:List (Str×Addr)}
def CellsIn (H:Hp) (cl:List (Str×Addr)):Prop:=∀b∈cl.map (·.2),∃o,H b=some (.frz o (.own 0))
theorem CellsIn.out (hc:CellsIn H cl) {b:Addr}{u:HO} (h:H b=some u) (n:∀o,u≠.frz o (.own 0)):offC H cl b=some u:=by
 rw [zcg (fun z=>by obtain ⟨o,y⟩:=hc b z;rw [h] at y;exact n o (Option.some.inj y))];exact h
theorem TupAt.off {p:Addr}{vs:List V} (hc:CellsIn H cl) (h:TupAt K ρ H p vs):TupAt K ρ (offC H cl) p vs:=by
 rcases h with ⟨n,h | ⟨o,h⟩⟩ | h
 · exact .inl ⟨n,.inl (hc.out h fun _ z=>by cases z)⟩
 · exact .inl ⟨n,.inr ⟨o,hc.out h fun _ z=>by cases z⟩⟩
 · exact .inr h
theorem LstAt.off {p:Addr}{vs:List V} (hc:CellsIn H cl) (h:LstAt K ρ H p vs):LstAt K ρ (offC H cl) p vs:=by
 rcases h with ⟨n,h | ⟨o,h⟩⟩ | h
 · exact .inl ⟨n,.inl (hc.out h fun _ z=>by cases z)⟩
 · exact .inl ⟨n,.inr ⟨o,hc.out h fun _ z=>by cases z⟩⟩
 · exact .inr h
mutual
theorem Rep.off (hc:CellsIn H cl):∀{d:D}{v:V},noC d=true→Rep K mg ρ H d v→Rep K mg ρ (offC H cl) d v
 | .non,_,_,h=>h
 | .bl _,_,_,h=>h
 | .int _,_,_,h=>h
 | .str _,_,_,h=>h
 | .fn _,_,_,h=>h
 | .ty _,_,_,h=>h
 | .tup ds,_,hb,h=>by
   unfold Rep at h ⊢
   unfold noC at hb
   obtain ⟨p,vs,e1,t,r⟩:=h
   exact ⟨p,vs,e1,t.off hc,RepL.off hc hb r⟩
 | .lst ds,_,hb,h=>by
   unfold Rep at h ⊢
   unfold noC at hb
   obtain ⟨p,vs,e1,t,r⟩:=h
   exact ⟨p,vs,e1,t.off hc,RepL.off hc hb r⟩
 | .obj i,_,hb,h=>by
   unfold Rep at h ⊢
   exact h
 | .lam t,_,_,h=>by
   unfold Rep at h ⊢
   obtain ⟨a,e1,n1,c,pm,ct,n2,h1,h2⟩:=h
   exact ⟨a,e1,n1,c,pm,ct,n2,hc.out h1 (fun _ z=>by cases z),hc.out h2 (fun _ z=>by cases z)⟩
 | .clo t vs,_,hb,h=>by
   unfold noC at hb
   cases hb
theorem RepL.off (hc:CellsIn H cl):∀{ds:List D}{vs:List V},noCL ds=true→RepL K mg ρ H ds vs→RepL K mg ρ (offC H cl) ds vs
 | [],_,_,h=>h
 | d::ds,_,hb,h=>by
   unfold RepL at h ⊢
   unfold noCL at hb
   obtain ⟨v,r,e,h1,h2⟩:=h
   obtain ⟨b1,b2⟩:=Bool.and_eq_true_iff.mp hb
   exact ⟨v,r,e,Rep.off hc b1 h1,RepL.off hc b2 h2⟩
end
theorem MOk.off {a:Addr}{m:MO} (hc:CellsIn H cl) (hb:noCM m=true) (h:MOk K mg ρ H a m):MOk K mg ρ (offC H cl) a m:=by
 cases m with
 | lst ds=>obtain ⟨vs,h1,h2⟩:=h;exact ⟨vs,hc.out h1 (fun _ z=>by cases z),h2.off hc hb⟩
 | ins c fs=>obtain ⟨C,dx,vs,h0,h1,h2,h3⟩:=h;exact ⟨C,dx,vs,h0,hc.out h1 (fun _ z=>by cases z),h2,h3.off hc hb⟩
 | dct kvs=>obtain ⟨vs,h1,h2,h3⟩:=h;exact ⟨vs,hc.out h1 (fun _ z=>by cases z),h2,h3.off hc hb⟩
 | exc c=>obtain ⟨C,h1,h2⟩:=h;exact ⟨C,h1,hc.out h2 (fun _ z=>by cases z)⟩
 | tab x q=>obtain ⟨h0,ps,h1,h2,h3⟩:=h;exact ⟨h0,ps,hc.out h1 (fun _ z=>by cases z),h2,fun pos cv z=>let ⟨c,z1,z2,z3⟩:=h3 pos cv z;⟨c,z1,z2,hc.out z3 (fun _ z=>by cases z)⟩⟩
theorem StOk.off (hS:StOk K mg ρ H S) (hc:CellsIn H cl) (hb:noCS S=true):StOk K mg ρ (offC H cl) S :=
 ⟨hS.len,hS.nd,fun i m a e1 e2=>(hS.ob i m a e1 e2).off hc (List.all_eq_true.mp hb m (List.mem_of_getElem? e1))⟩
theorem Ext.on (e:Ext ρ (offC H cl) ρ' H') (hS:StOk K mg ρ' H' S1) (nn:∀b∈cl.map (·.2),H' b=none) (no:∀b∈cl.map (·.2),b∉ρ):Ext ρ H ρ' (onC H' H cl):=by
 refine ⟨e.pre,fun b o h n=>?_,fun b h n=>?_⟩
 · by_cases z:b∈cl.map (·.2)
   · rw [zfs z];exact h
   · rw [zbn z];exact e.keep b o (by rw [zcg z];exact h) n
 · by_cases z:b∈cl.map (·.2)
   · obtain ⟨o,y⟩:=hS.mem h
     rw [nn b z] at y;cases y
   · rw [← zcg (H:=H) z];exact e.new b h n
theorem ext_on (nn:∀b∈cl.map (·.2),H' b=none):Ext ρ' H' ρ' (onC H' H cl) :=
 ⟨fun _ _ e=>e,fun b o h n=>by
   rw [zbn (fun z=>by rw [nn b z] at h;cases h)];exact h,fun _ z n=>absurd z n⟩
theorem StOk.on (hS:StOk K mg ρ' H' S1) (nn:∀b∈cl.map (·.2),H' b=none):StOk K mg ρ' (onC H' H cl) S1 :=
 ⟨hS.len,hS.nd,fun i m a e1 e2=>by
   have q:=hS.ob i m a e1 e2
   obtain ⟨u,z⟩:=q.some
   exact q.mono (ext_on nn) (zbn (fun y=>by rw [nn a y] at z;cases z))⟩
theorem Cells.out:∀{xs:List Str}{us:List V}{cl:List (Str×Addr)},Cells ρ H xs us cl→∀b∈cl.map (·.2),b∉ρ
 | [],[],[],_,b,hb=>by cases hb
 | x::xs,u::us,p::cl,h,b,hb=>by
   rw [List.map_cons] at hb
   rcases List.mem_cons.mp hb with rfl | hb
   · exact h.2.1
   · exact Cells.out h.2.2.2 b hb
 | [],[],_::_,h,_,_=>h.elim
 | [],_::_,_,h,_,_=>h.elim
 | _::_,[],_,h,_,_=>h.elim
 | _::_,_::_,[],h,_,_=>h.elim
theorem Cells.cin {xs:List Str}{us:List V} (h:Cells ρ H xs us cl):CellsIn H cl:=fun b hb=>let ⟨o,_,h1,_⟩:=h.at b hb;⟨o,h1⟩
end
def zur (K:PySem.W.Frag) (mg:Str→Option Value) (t:LT) (a c:Addr) (pm ct:Value) (cl:List (Str×Addr)) (g:G):Sp:=fun vs H Q _=>∃ρ ds S d S' us kv,RepL K mg ρ H ds vs∧StOk K mg ρ H S∧H a=some (.ext (cloP t cl a c pm ct))∧H c=some (.ext (zeb c t.qual))∧(cl.map (·.2)).Nodup∧Cells ρ H t.caps us cl∧RepL K mg ρ H kv us ∧
 (noCL ds && noCL kv && noCS S)=true∧g (ds++kv) S=some (d,S')∧ds.length=t.params.args.length∧∀v ρ' H',Ext ρ H ρ' H'→StOk K mg ρ' H' S'→Rep K mg ρ' H' d v→Q v H'
section
variable {P:Program}{w:World}{K:Frag}{mg:Str→Option Value}{base:Heap}{k:Nat}{t:LT}{ps:List Str}{f:E}
theorem clo_fn (S:CloScope ps t.caps t.scope) (hpl:ps.length=t.params.args.length) (a c:Addr) (pm ct:Value) (cl:List (Str×Addr))
   (hbody:∀(A:Around) (outer:List Env) (s:Shared) (H H1:Hp) (E:XK),Room k (A.deeper (envX t.qual t.scope s.heap.objs.size a (.ref c) cl))→FE (cxC P w K mg base (ps++t.caps) t.qual t.scope a (.ref c) cl A outer s H H1 E).nox t.body f) :
   FnOk P w K mg base CX0 (k + 1) a (kla_fn "<lambda>" t.qual t.params t.body t.scope cl pm (.ref c) ct) ps (zur K mg t a c pm ct cl (ztv (ps++t.caps).length (ps++t.caps).length f)):=by
 have len:∀vs H Q E,zur K mg t a c pm ct cl (ztv (ps++t.caps).length (ps++t.caps).length f) vs H Q E→vs.length=ps.length:=fun vs H Q E h=>by
   obtain ⟨ρ,ds,S,d,S',us,kv,r,_,_,_,_,_,_,_,_,hl,_⟩:=h
   rw [← r.length,hl,hpl]
 refine ⟨len,fun A outer s H args us vs Q E hr e0 hb r hsp=>?_⟩
 have hl:=len _ _ _ _ hsp
 obtain ⟨ρ,ds,S0,d,S',cs,kv,rr,hS,hA,hC,hnd,hcs,rk,hno,hf,hdl,kk⟩:=hsp
 have lim:s.heap.NoLimit:=e0.mod.nolimit.keeps fun b o e=>(e0.bs b o e).1
 have ho:s.heap.get? a=some (kla_obj "<lambda>" t.qual t.params t.body t.scope cl pm c ct):=(e0.hok a _ hA).1
 have hcd:s.heap.CodeRec (.ref c) t.qual:=(e0.hok c _ hC).1
 have hloc:∀y∈ps.zip us,t.scope.names.lookup y.1=some .local:=fun ⟨n,v⟩ hy=>S.par n (List.of_mem_zip hy).1
 refine kla_callFunE hr.depth ho rfl S.co S.gen rfl hcd (hb _ _ _ _ ?_)
 refine wpAny_newFunctionEnv S.nocell hloc (fun h₁ hns hsb=>⟨lim.fresh _ hsb,?_⟩) S.kind
 show codeAny _ _ (.expr t.body (envX t.qual t.scope s.heap.objs.size a (.ref c) cl)) _ _
 have hk₁:∀b o,s.heap.get? b=some o→h₁.get? b=some o:=fun b o e=>hsb.extBut b o (Nat.ne_of_lt (Heap.lt_size e)) (Heap.get?_push_of_some _ e)
 refine kla_codeExpr ?_
 have I:=zti (qual:=t.qual) (f:=a) (cd:=.ref c) (E:=E) (tk:=s.toks + (ps.zip us).length) S hr.hd e0 hl r hcs hnd hns hk₁
 have cin:=hcs.cin
 rw [Bool.and_eq_true,Bool.and_eq_true] at hno
 obtain ⟨⟨n1,n2⟩,n3⟩:=hno
 unfold ztv at hf
 split at hf
 · rename_i hlen
   have hpe:=(hbody A outer s H (offC H cl) E (hr.deeper _)).nox
   have rs:RepL K mg ρ (offC H cl) (ds++kv) (vs++cs):=(rr.off cin n1).append (rk.off cin n2)
   have ev:EnvR K mg ρ (offC H cl) ((ds++kv).map some) ((vs++cs).map some):=by
     refine ⟨by rw [List.length_map,List.length_map,rs.length],fun i x q=>?_⟩
     rw [List.getElem?_map] at q ⊢
     cases hx:(ds++kv)[i]? with
     | none=>rw [hx] at q;cases q
     | some y =>
       rw [hx] at q;cases q
       obtain ⟨v,e1,r1⟩:=rs.get hx
       exact ⟨v,by rw [e1];rfl,r1⟩
   rw [hlen,Nat.sub_self,List.replicate_zero,List.append_nil] at hf
   have hb2:∀b∈cl.map (·.2),(∃o,H b=some (.frz o (.own 0)))∧b∉frs outer:=fun b hb=>⟨cin b hb,fun z=>by
     obtain ⟨o,y⟩:=cin b hb
     rw [e0.frf b z] at y;cases y⟩
   refine wpAny_mono (hpe [] _ ((vs++cs).map some) (offC H cl) (fun v H'=>(∀b∈cl.map (·.2),H' b=none)→Q v (onC H' H cl)) I ⟨ρ,_,S0,d,S',ev,hS.off cin n3,hf,fun v ρ' H' E' hS' r' nn=>?_⟩) (fun v s' hs=>?_) fun e s' hs=>hs
   · exact kk v ρ' _ (E'.on hS' nn hcs.out) (hS'.on nn) (r'.mono (ext_on nn))
   · obtain ⟨v',H',J,rv,q⟩:=hs
     have un:Un (frs outer) [] (offC H cl) H' s.heap s'.heap:=J.base
     have nn:∀b∈cl.map (·.2),H' b=none:=fun b hb=>by
       obtain ⟨⟨o,z⟩,_⟩:=hb2 b hb
       exact un.free b o (e0.hok b _ z).1 (zha hb) (by simp)
     exact ⟨v',onC H' H cl,J.os,J.bare,un_on un cin,hok_on un e0.hok J.hok hb2,rv,q nn⟩
 · cases hf
structure CCal (P:Program) (w:World) (K:Frag) (mg:Str→Option Value) (base:Heap) (k:Nat) (t:LT) (g:G):Prop where
 ex:∃ps:List Str,(∀(a c:Addr) (pm ct:Value) (cl:List (Str×Addr)),FnOk P w K mg base CX0 k a (kla_fn "<lambda>" t.qual t.params t.body t.scope cl pm (.ref c) ct) ps (zur K mg t a c pm ct cl g)) ∧
   ∀(c:Addr) (pm ct:Value) (cl:List (Str×Addr)),Binds K (kla_fn "<lambda>" t.qual t.params t.body t.scope cl pm (.ref c) ct) ps []
theorem CCal.mono {j:Nat}{g:G} (c:CCal P w K mg base j t g) (h:j≤k):CCal P w K mg base k t g :=
 let ⟨ps,F,b⟩:=c.ex;⟨ps,fun a c pm ct cl=>(F a c pm ct cl).mono h,b⟩
theorem CCal.of (S:CloScope ps t.caps t.scope) (hpl:ps.length=t.params.args.length) (hb:∀(c:Addr) (pm ct:Value) (cl:List (Str×Addr)) (us:List Value),us.length=ps.length→bindArgs (kla_fn "<lambda>" t.qual t.params t.body t.scope cl pm (.ref c) ct) ⟨us,[]⟩=pure (ps.zip us))
   (hbody:∀(a c:Addr) (cl:List (Str×Addr)) (A:Around) (outer:List Env) (s:Shared) (H H1:Hp) (E:XK),Room k (A.deeper (envX t.qual t.scope s.heap.objs.size a (.ref c) cl))→FE (cxC P w K mg base (ps++t.caps) t.qual t.scope a (.ref c) cl A outer s H H1 E).nox t.body f) :
   CCal P w K mg base (k + 1) t (ztv (ps++t.caps).length (ps++t.caps).length f) :=
 ⟨ps,fun a c pm ct cl=>clo_fn S hpl a c pm ct cl (hbody a c cl),fun c pm ct cl=>.all (hb c pm ct cl)⟩
end
def zkp (ft:Str→Option G) (lt ct:LT→Option G) (f:E) (a:As):E:=fun ev S=>(f ev S).bind fun p=>match p.1 with
 | .fn x=>(ft x).bind fun g=>(a ev p.2).bind fun q=>g q.1 q.2
 | .lam t=>(lt t).bind fun g=>(a ev p.2).bind fun q=>g q.1 q.2
 | .clo t vs=>(ct t).bind fun g=>(a ev p.2).bind fun q=>if (noCL q.1 && noCL vs && noCS q.2)=true∧q.1.length=t.params.args.length then g (q.1++vs) q.2 else none
 | _=>none
section
variable {X:Cx}{k:Nat}{f:E}{a:As}{e:Expr}{es:List Expr}{pos:Pos}
theorem zrq {fe:Expr}{ft:Str→Option G}{lt ct:LT→Option G} (hT:∀x g,ft x=some g→Cal X.prog X.w X.K X.mg X.base k x g) (hL:∀t g,lt t=some g→LCal X.prog X.w X.K X.mg X.base k t g) (hC:∀t g,ct t=some g→CCal X.prog X.w X.K X.mg X.base k t g) (hr:Room k X.A) (hf:FE X fe f) (ha:FA X (e::es) a)
   (ht:eval (.Call fe (e::es) [] pos) X.env=(eval fe X.env >>= fun v=>callWith pos v [] (backTo pos (starEach (e::es) X.env)) (backToKw pos (keywordEach [] X.env))):=by rfl)
   (he:starEach (e::es) X.env=(false,eval e X.env)::starEach es X.env:=by exact zay rfl) (hpl:(backTo pos (starEach es X.env)).any (·.1)=false:=by exact zca rfl) :
   FE X (.Call fe (e::es) [] pos) (zkp ft lt ct f a):=by
 intro pins s σ H Q I h
 obtain ⟨ρ,ev,S,d,S',hE,hS,hf',kk⟩:=h
 obtain ⟨⟨y,S1⟩,q1,hf'⟩:=zaq hf'
 cases y with
 | fn x =>
   refine zfq (ft:=ft) (lt:=lt) hT hL hr hf ha ht he hpl pins s σ H Q I ⟨ρ,ev,S,d,S',hE,hS,?_,kk⟩
   unfold zeo
   rw [q1]
   exact hf'
 | lam t =>
   refine zfq (ft:=ft) (lt:=lt) hT hL hr hf ha ht he hpl pins s σ H Q I ⟨ρ,ev,S,d,S',hE,hS,?_,kk⟩
   unfold zeo
   rw [q1]
   exact hf'
 | clo t kv =>
   rw [ht]
   dsimp only at hf'
   obtain ⟨g,hx,hf'⟩:=zaq hf'
   obtain ⟨⟨ds,S2⟩,q2,hf'⟩:=zaq hf'
   dsimp only at hf'
   split at hf'
   · rename_i hno
     obtain ⟨hno,hlen⟩:=hno
     obtain ⟨ps,F,hb⟩:=(hC t g hx).ex
     refine wpAny_bind (thn (hf pins s σ H (fun v H1=>∃ρ1 a0 us,v=.ref a0∧Ext ρ H ρ1 H1∧StOk X.K X.mg ρ1 H1 S1∧CloAt ρ1 H1 t us a0∧RepL X.K X.mg ρ1 H1 kv us) I ⟨ρ,ev,S,_,S1,hE,hS,q1,fun v ρ1 H1 E1 hS1 r1=>?_⟩) fun u s1 ⟨v,H1,I1,rv,ρ1,a0,us,ev1,E1,hS1,L1,rk⟩=>?_)
     · unfold Rep at r1
       obtain ⟨b,us,rfl,L,rk⟩:=r1
       exact ⟨ρ1,b,us,rfl,E1,hS1,L,rk⟩
     · subst ev1
       obtain rfl:u=Value.ref a0:=rv
       obtain ⟨n0,c,pm,ctv,cl,nc,hA,hC,hnd,hcs⟩:=L1
       have at_:∀{H':Hp}{s':Shared},Inv X pins σ H' s'→H' a0=some (.ext (cloP t cl a0 c pm ctv))→FnAt a0 s'.heap:=fun J e=>⟨_,_,_,_,(J.hok a0 _ e).1⟩
       refine callWith_F (at_ I1 hA) (thn (ha pos pins s1 σ H1 (fun vs H2=>(H2 a0=some (.ext (cloP t cl a0 c pm ctv)))∧zur X.K X.mg t a0 c pm ctv cl g vs H2 Q E0) I1 ⟨ρ1,ev,S1,ds,S2,hE.mono E1,hS1,q2,fun vs ρ2 H2 E2 hS2 r2=>?_⟩) fun us s2 ⟨vs,H2,I2,r,hA2,q2⟩=>⟨at_ I2 hA2,?_⟩) he hpl
       · have h1:=E2.keep _ _ hA n0
         have h2:=E2.keep _ _ hC nc
         exact ⟨h1,ρ2,ds,S2,d,S',us,kv,r2,hS2,h1,h2,hnd,hcs.mono E2,rk.mono E2,hno,hf',hlen,fun v ρ' H' E' hS' r'=>kk v ρ' H' ((E1.trans E2).trans E') hS' r'⟩
       · exact zne (ds:=[]) (dvs:=[]) (F a0 c pm ctv cl) hr (hb c pm ctv cl) .nil zsy I2 r (by rw [List.append_nil];exact q2)
   · cases hf'
 | _=>cases hf'
end
end F
namespace F
open PySem L2 PySem.Spec PySem.Calls PyProof.Rows PySem.W
def zfr (ev:Ev):List Nat→Option (List D)
 | []=>some []
 | i::is=>match ev[i]? with
   | some (some d)=>(zfr ev is).map (d::·)
   | _=>none
structure CapsOk (X:Cx) (t:LT) (cl:List (Str×Addr)) (is:List Nat):Prop where
 clo:closureFor t.scope X.env=pure cl
 names:cl.map (·.1)=t.caps
 look:∀p∈cl,X.env.cells.lookup p.1=some p.2
 nd:t.caps.Nodup
 at_:is.map (fun i=>X.N[i]?)=t.caps.map some
 kind:∀x∈t.caps,X.env.scope.names.lookup x=some .cell
 fn:∀x∈t.caps,X.fn x=true
def trk (H:Hp) (h:Heap) (cl:List (Str×Addr)):Hp:=onC H (fun b=>(h.get? b).map fun o=>.frz o (.own 0)) cl
section
variable {X:Cx}{pins:List (Addr×Obj)}{σ:L2.St}{H H':Hp}{s:Shared}{t:LT}{cl:List (Str×Addr)}{is:List Nat}{ρ:List Addr}{ev:Ev}{S:Sto}
theorem CapsOk.hn (C:CapsOk X t cl is) (I:Inv X pins σ H s):∀b∈cl.map (·.2),H b=none:=fun b hb=>by
 obtain ⟨p,hp,rfl⟩:=List.mem_map.mp hb
 exact I.freeC _ _ (C.look p hp)
theorem CapsOk.isc (C:CapsOk X t cl is) (I:Inv X pins σ H s):∀b∈cl.map (·.2),∃o v,s.heap.get? b=some o∧o.data=.cell v:=fun b hb=>by
 obtain ⟨p,hp,rfl⟩:=List.mem_map.mp hb
 obtain ⟨v,o,h1,h2⟩:=I.cell _ _ (C.look p hp)
 exact ⟨o,v,h1,h2⟩
theorem CapsOk.cin (C:CapsOk X t cl is) (I:Inv X pins σ H s):CellsIn (trk H s.heap cl) cl:=fun b hb=>by
 obtain ⟨o,v,h1,_⟩:=C.isc I b hb
 exact ⟨o,by unfold trk;rw [zfs hb,h1];rfl⟩
theorem CapsOk.nodup (C:CapsOk X t cl is) (I:Inv X pins σ H s):(cl.map (·.2)).Nodup:=by
 have nd:(cl.map (·.1)).Nodup:=C.names ▸ C.nd
 unfold List.Nodup at nd ⊢
 rw [List.pairwise_map] at nd ⊢
 refine nd.imp_of_mem fun {p q} hp hq ne e=>ne ?_
 exact I.ok.inj _ _ p.2 (C.look p hp) (by rw [C.look q hq,e])
theorem CapsOk.ext (C:CapsOk X t cl is) (I:Inv X pins σ H s):Ext ρ H ρ (trk H s.heap cl) :=
 ⟨fun _ _ e=>e,fun b o h n=>by
   unfold trk
   rw [zbn (fun z=>by rw [C.hn I b z] at h;cases h)];exact h,fun _ z n=>absurd z n⟩
theorem CapsOk.st (C:CapsOk X t cl is) (I:Inv X pins σ H s) (hS:StOk X.K X.mg ρ H S):StOk X.K X.mg ρ (trk H s.heap cl) S :=
 hS.on (C.hn I)
theorem CapsOk.hok (C:CapsOk X t cl is) (I:Inv X pins σ H s):HOk X.prog X.w (trk H s.heap cl) s.heap:=fun b u e=>by
 unfold trk at e
 by_cases z:b∈cl.map (·.2)
 · obtain ⟨o,v,h1,_⟩:=C.isc I b z
   rw [zfs z,h1] at e
   cases e
   exact ⟨h1,⟨o,h1⟩⟩
 · rw [zbn z] at e
   refine (I.hok b u e).stay (fun _ _ _ q=>q) (fun d q=>?_) fun d xs q=>?_
   · unfold trk;rw [zbn (fun y=>by rw [C.hn I d y] at q;cases q)];exact q
   · unfold trk;rw [zbn (fun y=>by rw [C.hn I d y] at q;cases q)];exact q
theorem CapsOk.env0 (C:CapsOk X t cl is) (I:Inv X pins σ H s):Env0 X.prog X.w X.K X.mg X.base X.A X.stack s (trk H s.heap cl):=by
 have e:=I.env0
 refine ⟨e.frames,e.mod,fun b o h=>⟨(e.bs b o h).1,?_⟩,e.bsz,e.funs,fun b hb=>?_,C.hok I,e.bare⟩
 · unfold trk
   rw [zbn];exact (e.bs b o h).2
   intro z
   obtain ⟨p,hp,rfl⟩:=List.mem_map.mp z
   have:=I.ok.cab p.1 p.2 (C.fn _ (C.names ▸ List.mem_map_of_mem hp)) (C.look p hp)
   rw [Heap.get?_none_of_le (Nat.le_trans I.ok.bsz this)] at h
   cases h
 · unfold trk
   rw [zbn];exact e.frf b hb
   intro z
   obtain ⟨p,hp,rfl⟩:=List.mem_map.mp z
   rcases List.mem_cons.mp (I.stkSub _ hb) with y | y
   · exact I.cne _ _ (C.look p hp) y
   · obtain ⟨_,o',h3,_⟩:=I.ok.funs.mem y
     have:=I.ok.cab p.1 p.2 (C.fn _ (C.names ▸ List.mem_map_of_mem hp)) (C.look p hp)
     exact absurd (Heap.lt_size h3) (Nat.not_lt.mpr this)
theorem zjg (C:CapsOk X t cl is) (I:Inv X pins σ H s) (hE:EnvR X.K X.mg ρ H ev σ) (hS:StOk X.K X.mg ρ H S) :
   ∀(cl':List (Str×Addr)) (js:List Nat) (vs:List D),(∀p∈cl',p∈cl)→js.map (fun i=>X.N[i]?)=cl'.map (fun p=>some p.1)→zfr ev js=some vs→∃us,Cells ρ (trk H s.heap cl) (cl'.map (·.1)) us cl'∧RepL X.K X.mg ρ H vs us
 | [],[],vs,_,_,h=>by cases h;exact ⟨[],trivial,RepL.nil⟩
 | [],_::_,_,_,e,_=>by cases e
 | _::_,[],_,_,e,_=>by cases e
 | p::cl',i::js,vs,hm,e,h=>by
   rw [List.map_cons,List.map_cons] at e
   obtain ⟨e1,e2⟩:=List.cons.inj e
   unfold zfr at h
   split at h
   · rename_i d hd
     obtain ⟨vs',hv,h⟩:=mapS h
     subst h
     obtain ⟨us,c1,r1⟩:=zjg C I hE hS cl' js vs' (fun q hq=>hm q (List.mem_cons_of_mem _ hq)) e2 hv
     obtain ⟨v,hσ,rd⟩:=hE.at_ i d hd
     obtain ⟨m,hns,hl⟩:=I.loc
     have hp:=hm p List.mem_cons_self
     have hpm:p.1∈t.caps:=C.names ▸ List.mem_map_of_mem hp
     have kd:=C.kind _ hpm
     obtain ⟨u,ru,lk⟩:=hl i p.1 v e1 hσ (.inr (.inl kd))
     have hb:p.2∈cl.map (·.2):=List.mem_map_of_mem hp
     refine ⟨v::us,⟨rfl,hS.fresh (C.hn I _ hb),?_,c1⟩,RepL.cons rd r1⟩
     rcases lk with ⟨k1,_⟩ | ⟨_,c,z1,o,z2,z3⟩
     · have:X.env.scope.names.lookup p.1=some .local:=k1
       rw [kd] at this;cases this
     · rw [C.look p hp] at z1
       cases z1
       exact ⟨o,u,by unfold trk;rw [zfs hb,z2];rfl,z3,ru⟩
   · cases h
theorem un_off {fs:List Addr}{h h':Heap} (hn:∀b∈cl.map (·.2),H b=none) (u:Un fs [] (trk H h cl) H' h h') (x:∀b∈cl.map (·.2),∃o,h.get? b=some o) (y:∀b o w,H' b=some (.frz o w)→h'.get? b=some o):Un fs [] H (offC H' cl) h h':=by
 have out:∀b,b∉cl.map (·.2)→trk H h cl b=H b:=fun b z=>zbn z
 have kp:∀b∈cl.map (·.2),∀o,h.get? b=some o→h'.get? b=some o:=fun b hb o e=>y b o (.own 0) (u.frzs b o _ (by unfold trk;rw [zfs hb,e];rfl))
 have ne:∀b v,H b=some v→b∉cl.map (·.2):=fun b v e z=>by rw [hn b z] at e;cases e
 refine ⟨fun b o e n hb hx=>?_,fun b o e n hb hx=>?_,fun b o e n hx=>?_,u.there,fun b xs e=>?_,fun b o v e=>?_,fun b ps e=>?_⟩
 · by_cases z:b∈cl.map (·.2)
   · exact kp b z o e
   · exact u.keep b o e (by rw [out b z];exact n) hb hx
 · by_cases z:b∈cl.map (·.2)
   · exact ⟨o.slots,kp b z o e⟩
   · exact u.slot b o e (by rw [out b z];exact n) hb hx
 · by_cases z:b∈cl.map (·.2)
   · exact zha z
   · exact zds (u.free b o e (by rw [out b z];exact n) hx)
 · rw [zcg (ne b _ e)];exact u.tups b xs (by rw [out b (ne b _ e)];exact e)
 · rw [zcg (ne b _ e)];exact u.frzs b o v (by rw [out b (ne b _ e)];exact e)
 · obtain ⟨more,q⟩:=u.tbls b ps (by rw [out b (ne b _ e)];exact e)
   exact ⟨more,by rw [zcg (ne b _ e)];exact q⟩
theorem zwl {c:Addr}{pm ct:Value}{h':Heap}{tk:Nat} (I:Inv X pins σ H s) (hk:∀b o,s.heap.get? b=some o→h'.get? b=some o) (hsz:s.heap.objs.size≤h'.objs.size) :
   Inv X pins σ (upd H h'.objs.size (.ext (cloP t cl h'.objs.size c pm ct))) { s with heap:=h'.push (kla_obj "<lambda>" t.qual t.params t.body t.scope cl pm c ct),toks:=tk }:=by
 refine I.laid (t':=tk) (fun b o e=>Heap.get?_push_of_some _ (hk b o e)) hsz ?_
 refine ⟨Heap.get?_push_size _ rfl,⟨_,Heap.get?_push_size _ rfl⟩,fun h1 h2 p k=>k _ p⟩
def tClo (K:Frag) (mg:Str→Option Value) (j:Nat) (x:Str) (t:LT) (cl:List (Str×Addr)):TE:=fun σ H Q=>∃ρ S,StOk K mg ρ H S∧S[j]? = some (.tab x t.qual) ∧
 ∀a c pm ct H',Ext ρ H ρ H'→StOk K mg ρ H' S→a∉ρ→c∉ρ→H' a=some (.ext (cloP t cl a c pm ct))→H' c=some (.ext (zeb c t.qual))→Q (.ref a) H'
theorem pe_clo {x:Str}{params:Arguments}{body:Expr}{scope:Scope}{pos:Pos}{caps:List Str} (j:Nat) (hcd:zgu X.K X.mg x X.env.code) (hb:BltB X.base X.mg) (hcl:closureFor scope X.env=pure cl) (hdef:defaultsOf params X.env=([],[]):=by rfl) :
   PE X (.Lambda params body scope pos) (tClo X.K X.mg j x ⟨params,body,scope,X.env.qual++"<lambda>",caps,[]⟩ cl):=by
 intro pins s σ H Q I h
 obtain ⟨ρ,S,hS,hj,k⟩:=h
 obtain ⟨P,hP,T,ps,hps,htr,hcs⟩:=hS.adr hj
 obtain ⟨f1,o1,fd1,c1,e1,e2,e3,e4,e5⟩:=T
 obtain ⟨f2,o2,fd2,g1,g2,g3,g4⟩:=hcd
 rw [e1] at g1;cases g1
 rw [e2] at g2;cases g2
 rw [e3] at g3;cases g3
 have hcode:X.env.code=.ref c1:=g4.symm.trans e4
 have C:CodeHd s.heap c1 P:=codeHd_of_K I.kIn e5
 have hPt:s.heap.get? P=some (tabObj ps):=I.hok P _ hps
 have bs:=I.bs
 have nP:∀b o,X.base.get? b=some o→b≠P:=fun b o e z=>by
   have:=(bs b o e).2
   rw [z,hps] at this;cases this
 have hg:s.heap.Ns mainGlobals X.mg:=by
   obtain ⟨o,es,ep,ho,r⟩:=I.mod.glob
   exact ⟨o,es,ep,I.bk _ _ ho,r⟩
 have hgP:mainGlobals≠P:=by
   obtain ⟨o,es,ep,ho,r⟩:=I.mod.glob
   exact nP _ _ ho
 obtain ⟨bm,ob,b1,b2,b3,b4,b5,b6,b7⟩:=hb
 have hBA:s.heap.BuiltinsAt X.mg P:=⟨bm,ob,b1,b2,b3,nP _ _ b4,I.bk _ _ b4,b5,b6,b7⟩
 refine kla_eval hdef ?_
 cases hca:codeAmong pos ps.toList with
 | none =>
   refine kla_makeFunction hcl I.ok.glob hg hcode C hPt htr hca hgP hBA fun c' ctv h' tk hx hge hlt hrec htb=>?_
   have hn:H c'=none:=I.hok.fresh hge
   have I1:=zwi (q:=X.env.qual++"<lambda>") (tk:=tk) I hps hx htb hge hrec
   have I2:=zwl (t:=⟨params,body,scope,X.env.qual++"<lambda>",caps,[]⟩) (cl:=cl) (c:=c') (pm:=(X.mg "__name__").getD .none) (ct:=ctv) (h':=h') (tk:=tk) I1 (fun _ _ e=>e) (Nat.le_refl _)
   obtain ⟨E1,S1⟩:=zqp (a:=pos.line) (b:=pos.col) hS hj hP hps hn
   have hf:=I1.hok.fresh (a:=h'.objs.size) (Nat.le_refl _)
   have E2:=zbv S1 (.ext (cloP ⟨params,body,scope,X.env.qual++"<lambda>",caps,[]⟩ cl h'.objs.size c' ((X.mg "__name__").getD .none) ctv)) hf
   exact ⟨.ref h'.objs.size,_,I2,rfl,k _ c' _ _ _ (E1.trans E2) (S1.new _ hf) (S1.fresh hf) (hS.fresh hn) zbj (by rw [zba (Nat.ne_of_lt hlt),zbj])⟩
 | some cv =>
   obtain ⟨c',rfl,nc,hc'⟩:=hcs pos cv hca
   refine kla_makeFunctionHit hcl I.ok.glob hg hcode C hPt htr hca hBA fun ctv h' tk hk hsz=>?_
   have hf:H h'.objs.size=none:=I.hok.fresh hsz
   have I2:=zwl (t:=⟨params,body,scope,X.env.qual++"<lambda>",caps,[]⟩) (cl:=cl) (c:=c') (pm:=(X.mg "__name__").getD .none) (ct:=ctv) (h':=h') (tk:=tk) I hk hsz
   have E2:=zbv hS (.ext (cloP ⟨params,body,scope,X.env.qual++"<lambda>",caps,[]⟩ cl h'.objs.size c' ((X.mg "__name__").getD .none) ctv)) hf
   exact ⟨.ref h'.objs.size,_,I2,rfl,k _ c' _ _ _ E2 (hS.new _ hf) (hS.fresh hf) nc zbj (E2.keep _ _ hc' nc)⟩
end
end F
namespace F
open PySem L2 PySem.Spec PyProof.Rows PySem.W
section
variable {X:Cx}{o e lo hi:Expr}{pos pos' p2:Pos}{f h:E}{u w:Pt}
def sSlSet (f:E) (a b:Pt) (v:E):C:=fun ev S=>(v ev S).bind fun p=>(f ev p.2).bind fun q=>(a ev q.2).bind fun r=>(b ev r.2).bind fun t=>match p.1,q.1,r.1,t.1 with
 | .lst ys,.obj i,some lo,some hi=>(match t.2[i]? with
   | some (.lst ds)=>if 0≤lo∧lo≤hi∧hi≤ds.length∧ds.length + ys.length≤sizeLine then some (.nx ev,t.2.set i (.lst (ds.take lo.toNat++ys++ds.drop hi.toNat))) else none
   | _=>none)
 | _,_,_,_=>none
end
section
variable {X:Cx}{K:Frag}{mg:Str→Option Value}{a b:Expr}{f g:E}{pos:Pos}
def seeL (S:Sto):D→Option (List D)
 | .lst ds=>some ds
 | .obj a=>(match S[a]? with
   | some (.lst ds)=>some ds
   | _=>none)
 | _=>none
end
end F
namespace F
open PySem L2 PySem.Spec PyProof.Rows PySem.W PySem.Calls
theorem lri_len:typeLookup (.type "list_reverseiterator") "__len__"=pure none:=by rw [typeLookup_type,builtinLookup_eq_fast];kernel_rfl
theorem lri_hint:typeLookup (.type "list_reverseiterator") "__length_hint__"=pure (some (.builtin "list_reverseiterator.__length_hint__")):=by rw [typeLookup_type,builtinLookup_eq_fast];kernel_rfl
theorem lri_sub:isSubtype (.type "list_reverseiterator") (.type "list_reverseiterator")=pure true:=by rw [isSubtype_type];kernel_rfl
section
variable {prog:Program}{w:World}{A:Around}{s:Shared}{it l:Addr}{items:Array Value}
def RevAt (items:Array Value):Nat→Value→Prop:=fun i v=>items[items.size - 1 - i]? = some v
theorem rev_hint {E:Value→Shared→Prop}{Q:Bool→Shared→Prop}{i:Int} (hit:s.heap.IsRevIter it l i) (h:Q false s):wpAny (model prog w) A (Builtin.List.listLengthHint (.ref it)) Q E s:=by
 unfold Builtin.List.listLengthHint
 refine wpAny_bind (wpAny_specialOf hit.typeIs lri_len ?_)
 refine wpAny_bind (wpAny_specialOf (name:=Str.ofString "__length_hint__") hit.typeIs lri_hint ?_)
 refine wpAny_bind (wpAny_isInstance hit.typeIs lri_sub ?_)
 exact wpAny_pure h
variable {R:Result→Shared→Prop}
theorem zsu (hh:A.handled=none) (hne:l≠it) (hl:s.heap.IsList l items) (hit:s.heap.IsRevIter it l ((items.size:Int) - 1)) (hn:items.size≤sizeLine) {S:Addr}{c₀:Nat}
   (hS:s.heap.get? S=some { cls:=.type "list",data:=.seq #[] c₀ }) (h1:S≠it) (h2:S≠l)
   (hR:∀s' acc' c',Moved [S,it] (fun a b=>b=a) s s'→s'.heap.get? S=some { cls:=.type "list",data:=.seq acc' c' }→ItemsOf (RevAt items) acc' items.size→R (.ok (.ret .none)) s') :
   wpAny (model prog w) A.in1 (Builtin.List.listExtendWith (.ref S) (.ref it) .none) (fun fin s'=>match fin with
     | .done f=>R (.ok f) s'
     | .again c'=>c'.quiet=true∧codeAny (model prog w) A c' R s') (fun e s'=>R (.error e) s') s:=by
 have W:=(Walks.listRev (prog:=prog) (w:=w) (A:=A.in1) hh it l hne items).toS
 have st0:(0:Nat)≤items.size∧s.heap.IsRevIter it l ((items.size:Int) - 1 - ((0:Nat):Int))∧s.heap.IsList l items:=⟨Nat.zero_le _,by simpa using hit,hl⟩
 have nf:S∉[it,l]:=by simp [h1,h2]
 have ns:Builtin.List.listSameRef (.ref S) (.ref it)=false:=by
   unfold Builtin.List.listSameRef
   simpa using h1
 unfold Builtin.List.listExtendWith
 refine wpAny_bind (wpAny_typeOf hit.typeIs ?_)
 rw [ns,if_neg (by decide)]
 refine wpAny_bind (W.self 0 _ _ _ st0 (wpAny_bind (wpAny_holding (rev_hint hit ?_))))
 rw [if_neg (by decide +kernel)]
 refine wpAny_pure ⟨plainId_quiet F.plain_extend_loop _,?_⟩
 exact codeAny_extend_loopS W hn S nf .none items.size 0 s #[] c₀ (Nat.sub_zero _) (Nat.zero_le _) st0 hS (ItemsOf.nil _) fun s' acc' c' m hs ha=>hR s' acc' c' m hs ha
theorem rev_init (hh:A.handled=none) (hne:l≠it) (hl:s.heap.IsList l items) (hit:s.heap.IsRevIter it l ((items.size:Int) - 1)) (hn:items.size≤sizeLine) {S:Addr}
   (hS:s.heap.get? S=some { cls:=.type "list",data:=.seq #[] }) (h1:S≠it) (h2:S≠l)
   (hR:∀s' acc' c',Moved [S,it] (fun a b=>b=a) s s'→s'.heap.get? S=some { cls:=.type "list",data:=.seq acc' c' }→ItemsOf (RevAt items) acc' items.size→R (.ok (.ret .none)) s') :
   wpAny (model prog w) A.in1 (Builtin.«list.__init__» ⟨[.ref S,.ref it],[]⟩) (fun fin s'=>match fin with
     | .done f=>R (.ok f) s'
     | .again c'=>c'.quiet=true∧codeAny (model prog w) A c' R s') (fun e s'=>R (.error e) s') s:=by
 show wpAny _ A.in1 (Builtin.List.listItems (.ref S) >>= fun old=>Builtin.List.listUpdate (.ref S) (fun _=>#[]) >>= fun _=>letGo old.toList.reverse >>= fun _=>Builtin.List.listExtendWith (.ref S) (.ref it) .none) _ _ s
 unfold Builtin.List.listItems
 refine wpAny_bind (wpAny_bind (wpAny_seqItems hS rfl (wpAny_pure ?_)))
 unfold Builtin.List.listUpdate
 refine wpAny_bind (wpAny_updateSeq hS rfl (wpAny_bind (wpAny_letGo ?_)))
 have hS2:=Heap.get?_update_self (Obj.mapSeq (fun _=>(#[]:Array Value))) hS rfl
 have keep:∀b o,b≠S→s.heap.get? b=some o→(s.heap.update S (Obj.mapSeq (fun _=>(#[]:Array Value)))).get? b=some o:=fun b o hb e=>(Heap.get?_update_other _ _ (Ne.symm hb)).trans e
 refine zsu hh hne (hl.at fun o e=>keep l o (Ne.symm h2) e) (hit.at fun o e=>keep it o (Ne.symm h1) e) hn hS2 h1 h2 fun s' acc' c' m hs ha=>hR s' acc' c' ?_ hs ha
 exact Moved.trans (fun _ _ _ p q=>q.trans p) ((Moved.refl (wr:=[S,it]) (G:=fun a b=>b=a) (s:=s) fun _=>rfl).then_heap (Nat.le_refl _) fun b o hb e=>keep b o (fun z=>hb (by simp [z])) e) m
theorem zms {E:Value→Shared→Prop}{Q:Value→Shared→Prop} (hh:A.handled=none) (hne:l≠it) (hl:s.heap.IsList l items) (hit:s.heap.IsRevIter it l ((items.size:Int) - 1)) (hn:items.size≤sizeLine)
   (hQ:∀s' acc' c',Moved [s.heap.objs.size,it] (fun a b=>b=a) { s with heap:=s.heap.push { cls:=.type "list",data:=.seq #[] } } s'→s'.heap.get? s.heap.objs.size=some { cls:=.type "list",data:=.seq acc' c' }→ItemsOf (RevAt items) acc' items.size→Q (.ref s.heap.objs.size) s') :
   wpAny (model prog w) A (call (.type "list") [.ref it]) Q E s:=by
 obtain ⟨o1,e1,_⟩:=id hl
 obtain ⟨o2,e2,_⟩:=id hit
 refine callType_codes (Q₁:=fun obj s₁=>obj=.ref s.heap.objs.size∧s₁={ s with heap:=s.heap.push { cls:=.type "list",data:=.seq #[] } }) F.called_list (F.typeCall_list_1 _) F.entry_list_init (code_list_new _ ⟨rfl,rfl⟩) fun obj s₁ h₁=>?_
 obtain ⟨rfl,rfl⟩:=h₁
 have hS:(s.heap.push { cls:=.type "list",data:=.seq #[] }).get? s.heap.objs.size=some { cls:=.type "list",data:=.seq #[] }:=Heap.get?_push_size _ rfl
 refine ⟨⟨_,hS,rfl⟩,F.args_list_init_2 _ _,rev_init (A:=A.in1) hh hne (hl.at fun o e=>Heap.get?_push_of_some _ e) (hit.at fun o e=>Heap.get?_push_of_some _ e) hn hS ?_ ?_ fun s' acc' c' m hs ha=>⟨rfl,hQ s' acc' c' m hs ha⟩⟩
 · exact fun z=>Nat.lt_irrefl _ (z ▸ Heap.lt_size e2)
 · exact fun z=>Nat.lt_irrefl _ (z ▸ Heap.lt_size e1)
end
section
variable {X:Cx}{e:Expr}{te:TE}{f:E}{p p2 pos pos2:Pos}
theorem zmu:bootBuiltins "reversed"=some (.type "reversed"):=by with_unfolding_all rfl
theorem zvc {its:List Value}{acc:Array Value} (h:ItemsOf (RevAt its.toArray) acc its.toArray.size):acc=its.reverse.toArray:=by
 apply Array.toList_inj.mp
 obtain ⟨h1,h2⟩:=h
 rw [List.size_toArray] at h1
 have l1:acc.toList.length=its.length:=by rw [Array.length_toList];exact h1
 apply List.ext_getElem
 · rw [l1,List.length_reverse]
 · intro j q1 q2
   have q3:j < its.length:=by rw [← l1];exact q1
   have e1:acc[j]? = some acc.toList[j]:=by
     rw [← Array.getElem?_toList];exact List.getElem?_eq_getElem q1
   have e2:=h2 j _ e1
   unfold RevAt at e2
   rw [List.size_toArray,← Array.getElem?_toList,List.getElem?_eq_getElem (by show its.length - 1 - j < its.length;omega)] at e2
   have e3:=Option.some.inj e2
   rw [← e3,List.getElem_reverse]
def tRev (K:PySem.W.Frag) (te:TE):TE:=fun σ H Q=>te σ H fun x H1=>∃a xs,x=.ref a∧SqL K H1 a xs∧∀l,H1 l=none→Q (.ref l) (upd H1 l (.lst xs.reverse))
theorem zsx (he:PE X e te) (hc:X.calm=true) (hm:X.mg "list"=none) (hm2:X.mg "reversed"=none) (hg:Gl X "list") (hg2:Gl X "reversed")
   (h1:starEach [.Call (.Name "reversed" p2) [e] [] pos2] X.env=(false,eval (.Call (.Name "reversed" p2) [e] [] pos2) X.env)::starEach [] X.env) (h2:starEach [e] X.env=(false,eval e X.env)::starEach [] X.env) :
   PE X (.Call (.Name "list" p) [.Call (.Name "reversed" p2) [e] [] pos2] [] pos) (tRev X.K te):=by
 intro pins s σ H Q I h
 refine wpAny_Call_Name_kw (zik I hg hm zol ?_ (by decide) (by decide))
 refine PyProof.Rows.callWith_type1 ?_ h1 rfl
 rw [h1]
 show wpAny _ _ (spliced ((false,eval (.Call (.Name "reversed" p2) [e] [] pos2) X.env)::[])) _ _ s
 refine PySem.Calls.spliced_cons ?_
 refine wpAny_Call_Name_kw (zik I hg2 hm2 zmu ?_ (by decide) (by decide))
 have h':=zll he zvo h2 pos2 pins s σ H (fun vs H1=>match vs with
   | [x]=>∃a xs,x=.ref a∧SqL X.K H1 a xs∧∀l,H1 l=none→Q (.ref l) (upd H1 l (.lst xs.reverse))
   | _=>False) I h
 refine PyProof.Rows.callWith_type1 (thn h' fun us s1 ⟨vs,H1,I1,r1,q1⟩=>?_) h2 rfl
 match vs,r1,q1 with
 | [x],r1,q1 =>
   obtain ⟨a,xs,rfl,hq,q⟩:=q1
   obtain ⟨u,rfl,ru⟩:=r1.one
   cases ru
   obtain ⟨its,rv,pl,hz⟩:=I1.list hq
   have hlen:=rv.length
   have hl:s1.heap.IsList a its.toArray:=pl.isList
   obtain ⟨oa,ea,_⟩:=id hl
   refine call_reversed_list hl ?_
   refine PySem.Calls.spliced_nil ?_
   have hne:a≠s1.heap.objs.size:=fun z=>Nat.lt_irrefl _ (z ▸ Heap.lt_size ea)
   refine zms (items:=its.toArray) (I.ok.hd hc) hne (hl.at fun o e=>Heap.get?_push_of_some _ e) ⟨_,Heap.get?_push_size _ rfl,rfl,rfl⟩ (by rw [List.size_toArray];omega) fun s' acc' c' m hs ha=>?_
   have es:=zvc ha
   subst es
   obtain ⟨h',g',d',t',o'⟩:=s'
   have e1:=m.gens
   have e2:=m.drawn
   have e3:=m.os
   dsimp only at e1 e2 e3 hs
   subst e1 e2 e3
   have sz:(s1.heap.push (revObj a ((its.toArray.size:Int) - 1))).objs.size=s1.heap.objs.size + 1:=Heap.size_push ..
   have kp:∀b o,s1.heap.get? b=some o→h'.get? b=some o:=fun b o e=>by
     have lt:=Heap.lt_size e
     refine m.heap b o ?_ (Heap.get?_push_of_some _ (Heap.get?_push_of_some _ e))
     simp only [sz,List.mem_cons,List.not_mem_nil,or_false,not_or]
     exact ⟨Nat.ne_of_lt (Nat.lt_succ_of_lt lt),Nat.ne_of_lt lt⟩
   rw [sz] at hs
   refine ⟨.ref (s1.heap.objs.size + 1),_,I1.laid (t':=t') (h':=h') kp (Nat.le_succ _) (show ObjOk X.prog X.w _ h' _ (.lst xs.reverse) from ⟨by rw [List.length_reverse];exact hz,its.reverse,c',rv.reverse,hs⟩),?_,q _ (I1.hok.fresh (Nat.le_succ _))⟩
   show Value.ref _=Value.ref _
   rw [sz]
def zgm (f:E):E:=fun ev S=>(f ev S).bind fun p=>match p.1 with
 | .lst ds=>some (.lst ds.reverse,p.2)
 | _=>none
theorem zkm (hm:X.mg "list"=none) (hm2:X.mg "reversed"=none) (he:FE X e f) (hc:X.calm=true:=by rfl) (hg:Gl X "list":=by rfl) (hg2:Gl X "reversed":=by rfl)
   (h1:starEach [.Call (.Name "reversed" p2) [e] [] pos2] X.env=(false,eval (.Call (.Name "reversed" p2) [e] [] pos2) X.env)::starEach [] X.env:=by exact zay rfl) (h2:starEach [e] X.env=(false,eval e X.env)::starEach [] X.env:=by exact zay rfl) :
   FE X (.Call (.Name "list" p) [.Call (.Name "reversed" p2) [e] [] pos2] [] pos) (zgm f) :=
 zbw (zsx he hc hm hm2 hg hg2 h1 h2) fun σ H Q h=>by
   obtain ⟨ρ,ev,S,d,S',hE,hS,hf,k⟩:=h
   obtain ⟨⟨x,S1⟩,q1,hf⟩:=zaq hf
   cases x with
   | lst ds =>
     cases hf
     refine ⟨ρ,ev,S,_,S1,hE,hS,q1,fun v ρ1 H1 E1 hS1 r1=>?_⟩
     obtain ⟨b,us,rfl,t,r⟩:=r1.refL
     exact ⟨b,us,rfl,t.sq,fun l hl=>k _ ρ1 _ (E1.trans (zbv hS1 _ hl)) (hS1.new _ hl) (Rep.lst (s:=hS1) hl r.reverse)⟩
   | _=>cases hf
end
end F
namespace F
open PySem L2 PySem.Spec PySem.Calls PyProof.Rows PySem.W
open Classical in
noncomputable def zkq (g:G) (a:As) (q:Nat) (t:LT) (cl:List (Str×Addr)) (is:List Nat):E:=fun ev S=>(a ev S).bind fun p=>match ev[q]? with
 | some (some (.lam t'))=>if t'={ t with cl:=cl } then (zfr ev is).bind fun vs=>(g (p.1++[.clo t vs]) p.2).bind fun r=>if (noC r.1 && noCS r.2)=true then some r else none else none
 | _=>none
def tAsD (K:Frag) (mg:Str→Option Value) (q:Nat) (t:LT) (cl:List (Str×Addr)) (f:As):TA:=fun σ H Q=>∃ρ ev S ds S',EnvR K mg ρ H ev σ∧StOk K mg ρ H S∧f ev S=some (ds,S')∧ev[q]? = some (some (.lam { t with cl:=cl })) ∧
 ∀vs a c pm ct ρ' H',Ext ρ H ρ' H'→StOk K mg ρ' H' S'→RepL K mg ρ' H' ds vs→a∉ρ'→c∉ρ'→H' a=some (.ext (cloP t cl a c pm ct))→H' c=some (.ext (zeb c t.qual))→Q (vs++[.ref a]) H'
def FAD (X:Cx) (es:List Expr) (q:Nat) (t:LT) (cl:List (Str×Addr)) (f:As):Prop:=PA X es (tAsD X.K X.mg q t cl f)
section
variable {X:Cx}{t:LT}{cl:List (Str×Addr)}{q:Nat}
theorem zrt {e:Expr} (h:FE X e (eV q)) (hs:starEach [e] X.env=[(false,eval e X.env)]:=by exact zay rfl):FAD X [e] q t cl aN :=
 zlk (zll h zvo hs) fun σ H Q h=>by
   obtain ⟨ρ,ev,S,ds,S',hE,hS,hf,hj,k⟩:=h
   cases hf
   refine ⟨ρ,ev,S,.lam { t with cl:=cl },S,hE,hS,by simp [eV,hj],fun v ρ1 H1 E1 hS1 r1=>?_⟩
   unfold Rep at r1
   obtain ⟨a,rfl,n1,c,pm,ct,n2,h1,h2⟩:=r1
   exact k [] a c pm ct ρ1 H1 E1 hS1 RepL.nil n1 n2 h1 h2
theorem zhx {e:Expr}{es:List Expr}{f:E}{g:As} (ha:FE X e f) (hr:FAD X es q t cl g) (hs:starEach (e::es) X.env=(false,eval e X.env)::starEach es X.env:=by exact zay rfl):FAD X (e::es) q t cl (aC f g) :=
 zlk (zll ha hr hs) fun σ H Q h=>by
   obtain ⟨ρ,ev,S,d,S',hE,hS,hf,hj,k⟩:=h
   obtain ⟨⟨x,S1⟩,q1,hf⟩:=zaq hf
   obtain ⟨⟨y,S2⟩,q2,hf⟩:=zaq hf
   cases hf
   refine ⟨ρ,ev,S,x,S1,hE,hS,q1,fun v ρ1 H1 E1 hS1 r1=>⟨ρ1,ev,S1,y,_,hE.mono E1,hS1,q2,hj,fun vs a c pm ct ρ2 H2 E2 hS2 r2 n1 n2 h1 h2=>?_⟩⟩
   exact k (v::vs) a c pm ct ρ2 H2 (E1.trans E2) hS2 (RepL.cons (r1.mono E2) r2) n1 n2 h1 h2
end
section
variable {X:Cx}{k q:Nat}{x:Str}{g:G}{a:As}{t:LT}{cl:List (Str×Addr)}{is:List Nat}{e:Expr}{es:List Expr}{p pos:Pos}
theorem zrr (cal:Cal X.prog X.w X.K X.mg X.base k x g) (C:CapsOk X t cl is) (hr:Room k X.A) (ha:FAD X (e::es) q t cl a) (hg:Gl X x:=by rfl) (hdb:(x == ("__debug__":Str))=false:=by decide)
   (he:starEach (e::es) X.env=(false,eval e X.env)::starEach es X.env:=by exact zay rfl) (hpl:(backTo pos (starEach es X.env)).any (·.1)=false:=by exact zca rfl) :
   FE X (.Call (.Name x p) (e::es) [] pos) (zkq g a q t cl is):=by
 obtain ⟨f,fd,ps,ds,dvs,dds,gg,F,hm,hk,hb,hd,hdd,hgg⟩:=cal.ex
 intro pins s σ H Q I h
 obtain ⟨ρ,ev,S,d,S',hE,hS,hf,kk⟩:=h
 unfold zkq at hf
 obtain ⟨⟨as,S1⟩,q1,hf0⟩:=zaq hf
 clear hf
 dsimp only at hf0
 split at hf0
 · rename_i t' hj
   split at hf0
   · rename_i hyu
     subst hyu
     obtain ⟨kv,q2,hf⟩:=zaq hf0
     obtain ⟨⟨d1,S2⟩,q3,hf⟩:=zaq hf
     dsimp only at hf
     split at hf
     · rename_i hno
       cases hf
       rw [Bool.and_eq_true] at hno
       obtain ⟨n1,n2⟩:=hno
       refine wpAny_Call_Name_kw (zlr I hg hm ?_ hdb)
       refine PySem.W.callWith_K (h₀:=X.base) I.ok.mod.kin hk (thn (ha pos pins s σ H (fun vs H1=>∃ws a c pm ct ρ1,vs=ws++[.ref a]∧Ext ρ H ρ1 H1∧StOk X.K X.mg ρ1 H1 S1∧RepL X.K X.mg ρ1 H1 as ws∧a∉ρ1∧c∉ρ1∧H1 a=some (.ext (cloP t cl a c pm ct))∧H1 c=some (.ext (zeb c t.qual))) I ⟨ρ,ev,S,as,S1,hE,hS,q1,hj,fun vs a c pm ct ρ1 H1 E1 hS1 r1 m1 m2 m3 m4=>⟨vs,a,c,pm,ct,ρ1,rfl,E1,hS1,r1,m1,m2,m3,m4⟩⟩) fun us s1 ⟨vs,H1,I1,r,ws,a',c,pm,ct,ρ1,ev1,E1,hS1,r1,m1,m2,m3,m4⟩=>⟨I1.kIn,?_⟩) he hpl
       subst ev1
       have E2:=C.ext (ρ:=ρ1) I1
       have hS2:=C.st I1 hS1
       obtain ⟨cs,hcs,rk⟩:=zjg C I1 (hE.mono E1) hS1 cl is kv (fun _ h=>h) (by
         rw [C.at_,← C.names,List.map_map];rfl) q2
       rw [C.names] at hcs
       have rc:Rep X.K X.mg ρ1 (trk H1 s1.heap cl) (.clo t kv) (.ref a'):=by
         unfold Rep
         exact ⟨a',cs,rfl,⟨m1,c,pm,ct,cl,m2,E2.keep _ _ m3 m1,E2.keep _ _ m4 m2,C.nodup I1,hcs⟩,rk.mono E2⟩
       have cin:=C.cin I1
       have hsp:spG X.K X.mg gg ((ws++[.ref a'])++dvs) (trk H1 s1.heap cl) (fun v H'=>CellsIn H' cl→Q v (offC H' cl)) E0 :=
         ⟨ρ1,(as++[.clo t kv])++dds,S1,d,S',((r1.mono E2).append (RepL.cons rc RepL.nil)).append (hdd _ _),hS2,hgg _ _ _ q3,fun v ρ' H' E' hS' r' ci=>by
           refine kk v ρ' (offC H' cl) (E1.trans ⟨E'.pre,fun b o hb nb=>?_,fun b hb nb=>?_⟩) (hS'.off ci n2) (r'.off ci n1)
           · have z:b∉cl.map (·.2):=fun z=>by rw [C.hn I1 b z] at hb;cases hb
             rw [zcg z]
             exact E'.keep b o (E2.keep b o hb nb) nb
           · have:=E'.new b hb nb
             by_cases z:b∈cl.map (·.2)
             · exact C.hn I1 b z
             · unfold trk at this;rw [zbn z] at this;exact this⟩
       have r2:Vals ((ws++[.ref a'])++dvs) (us++ds):=r.append hd
       have hl:(us++ds).length=ps.length:=by rw [← r2.length];exact F.len _ _ _ _ hsp
       refine wpAny_call (codeAny_mono (F.run X.A X.stack s1 (trk H1 s1.heap cl) ⟨us,[]⟩ (us++ds) _ _ E0 hr (C.env0 I1) (hb s1 us I1.kIn hl) r2 hsp) fun r s' hq=>?_)
       cases r with
       | error e=>exact hq.elim
       | ok fl =>
         cases fl with
         | ret u =>
           obtain ⟨v,H',os,bare,un,hok,rv,q⟩:=hq
           have ci:CellsIn H' cl:=fun b hb=>let ⟨o,z⟩:=cin b hb;⟨o,un.frzs b o _ z⟩
           obtain ⟨hh,gn,dr,tt,os'⟩:=s'
           obtain rfl:os'=s1.os:=os
           refine ⟨v,offC H' cl,I1.call (h':=hh) (g':=gn) (d':=dr) (t':=tt) (ch:=[]) (un_off (C.hn I1) un (fun b hb=>let ⟨o,_,z,_⟩:=C.isc I1 b hb;⟨o,z⟩) (fun b o w z=>(hok b _ z).1)) (zpm hok ci) bare (fun b z=>absurd z (by simp)),rv,q ci⟩
         | next=>exact False.elim hq
         | brk=>exact False.elim hq
         | cont=>exact False.elim hq
     · cases hf
   · cases hf0
 · cases hf0
end
def spA (K:Frag) (mg:Str→Option Value) (gs:List (Str×Addr)→G):Sp:=fun vs H Q E=>∀cl,spG K mg (gs cl) vs H Q E
open Classical in
noncomputable def gA (gs:List (Str×Addr)→G):G:=fun ds S=>if h:∃r,∀cl,gs cl ds S=some r then some h.choose else none
theorem gA_of {gs:List (Str×Addr)→G}{ds:List D}{S:Sto}{r:D×Sto} (h:∀cl,gs cl ds S=some r):gA gs ds S=some r:=by
 have e:∃r,∀cl,gs cl ds S=some r:=⟨r,h⟩
 unfold gA
 rw [dif_pos e]
 exact (e.choose_spec []).symm.trans (h [])
theorem of_gA {gs:List (Str×Addr)→G}{ds:List D}{S:Sto}{r:D×Sto} (h:gA gs ds S=some r) (cl:List (Str×Addr)):gs cl ds S=some r:=by
 unfold gA at h
 split at h
 · rename_i e
   cases h
   exact e.choose_spec cl
 · cases h
theorem spA_of {K:Frag}{mg:Str→Option Value}{gs:List (Str×Addr)→G}{vs:List V}{H:Hp}{Q:VK}{E:XK} (h:spG K mg (gA gs) vs H Q E):spA K mg gs vs H Q E:=fun cl=>by
 obtain ⟨ρ,ds,S,d,S',r,hS,hf,k⟩:=h
 exact ⟨ρ,ds,S,d,S',r,hS,of_gA hf cl,k⟩
section
variable {P:Program}{w:World}{K:Frag}{mg:Str→Option Value}{base:Heap}{x qual:Str}{st:Stmt}{N ps:List Str}{k:Nat}{b:List (Str×Addr)→C}{dV:Value}{f:Addr}{fd:FuncData}
theorem FunD.okA (F:FunD K x qual st f fd dV) {y:Str} (hm:mg y=some (.ref f)) (S:FnScope N ps (zab st))
   (hbody:∀(cdv:Value),zgu K mg y cdv→∀(A:Around) (outer:List Env) (s:Shared) (H:Hp) (E:XK),Room k (A.deeper (envOfC qual (zab st) s.heap.objs.size f cdv)) →
     ∃cl,FSs (cxOf CX0 P w K mg base N qual (zab st) f cdv A outer s H E).nox (zam st) (b cl)):FnOk P w K mg base CX0 (k + 1) f fd ps (spG K mg (gA fun cl=>zaz N.length ps.length (b cl))):=by
 have co:=F.code hm
 obtain ⟨oc,od,kV,doc,pm,an,cdv,ct,osl,rfl,lk,hcd⟩:=F.ex
 refine fn_of lk hcd S (fun vs H Q E h=>?_) fun A outer s H vs Q E hr hsp=>?_
 · obtain ⟨ρ,ds,S,d,S',r,hS,hf,k⟩:=h
   rw [← r.length];exact zjm (of_gA hf [])
 · obtain ⟨cl,hb⟩:=hbody cdv co A outer s H E hr
   exact ⟨_,hb.nox,zqa (spA_of hsp cl)⟩
abbrev BodyA (P:Program) (w:World) (K:Frag) (mg:Str→Option Value) (base:Heap) (N:List Str) (x qual:Str) (st:Stmt) (k:Nat) (b:List (Str×Addr)→C):Prop :=
 ∀(f:Addr) (cdv:Value),zgu K mg x cdv→∀(A:Around) (outer:List Env) (s:Shared) (H:Hp) (E:XK),Room k (A.deeper (envOfC qual (zab st) s.heap.objs.size f cdv)) →
     ∃cl,FSs (cxOf CX0 P w K mg base N qual (zab st) f cdv A outer s H E).nox (zam st) (b cl)
theorem HasDef.calA (h:HasDef K mg x st 0) (S:FnScope N ps (zab st)) (hb:Bnd0 x x st ps) (hbody:BodyA P w K mg base N x x st k b):Cal P w K mg base (k + 1) x (gA fun cl=>zaz N.length ps.length (b cl)):=by
 obtain ⟨f,fd,dV,F,hm,rfl⟩:=h.ex
 exact ⟨f,fd,ps,[],[],[],_,F.okA hm S fun cdv co A outer s H E hr=>hbody f cdv co A outer s H E hr,hm,F.kp,F.binds0 hb,.nil,fun _ _=>RepL.nil,fun args S r e=>by rw [List.append_nil];exact e⟩
end
end F
set_option maxHeartbeats 4000000
namespace F
open PySem L2 PySem.Spec PyProof.Rows
def lexK:List V→List V→Option Bool
 | [],[]=>some false
 | [],_::_=>some true
 | _::_,[]=>some false
 | .int x::xs,.int y::ys=>if x=y then lexK xs ys else some (decide (x < y))
 | .str x::xs,.str y::ys=>if x=y then lexK xs ys else some (decide (x.cps.toList < y.cps.toList))
 | _::_,_::_=>none
inductive FlatAre:List Value→List V→Prop
 | nil:FlatAre [] []
 | int (a:Int) (t:Tok) {vs:List Value}{ns:List V}:FlatAre vs ns→FlatAre (.int a t::vs) (.int a::ns)
 | str (a:Str) (t:Tok) {vs:List Value}{ns:List V}:FlatAre vs ns→FlatAre (.str a t::vs) (.str a::ns)
theorem FlatAre.length {vs:List Value}{ns:List V} (h:FlatAre vs ns):vs.length=ns.length:=by
 induction h with
 | nil=>rfl
 | int _ _ _ ih=>rw [List.length_cons,List.length_cons,ih]
 | str _ _ _ ih=>rw [List.length_cons,List.length_cons,ih]
theorem eqAt_str (A:Around) (s:Shared) (a:Str) (t:Tok) (c:Str) (u:Tok):∃e,SeqAt.EqAt A s (.str a t) (.str c u) e∧(e=true ↔ a=c) :=
 ⟨(a == c),SeqAt.EqAt.str_str a t c u,by simp⟩
theorem rcLt_str (A:Around) (s:Shared) (a:Str) (t:Tok) (c:Str) (u:Tok) (prog:Program) (w:World) (E:Value→Shared→Prop) (Q:Value→Shared→Prop) (h:Q (.bool (decide (a.cps.toList < c.cps.toList))) s) :
   wpAny (model prog w) A (richCompare .Lt (.str a t) (.str c u)) Q E s :=
 (PyProof.Rows.lt_str h:wpAny (model prog w) A (compareOp .Lt (.str a t) (.str c u)) Q E s)
section
open PySem.SeqAt
open PySem.AutoSeq1 (wpAny_loadPart')
open PySem.MeetsSeq PySem.MeetsSeq2 PySem.MeetsSeq3

theorem zle (l b:Addr) (items items2:Array Value) (n n2:Nat) (dd dd2:Option Addr) (sl sl2:Array (Option Value)) (ns ms:List V) (res:Bool) (hres:lexK ns ms=some res) (hi:FlatAre items.toList ns) (hj:FlatAre items2.toList ms) :
   Meets (Builtin.«tuple.__lt__» ⟨[.ref l,.ref b],[]⟩)
     (fun _ R s=>s.heap.get? l=some { cls:=.type "tuple",dict:=dd,data:=.seq items n,slots:=sl }∧s.heap.get? b=some { cls:=.type "tuple",dict:=dd2,data:=.seq items2 n2,slots:=sl2 } ∧
       R (.ok (.ret (.bool res))) s) :=
 .of_wp fun prog w A R s h=>by
   obtain ⟨hp,g,d,tk,os⟩:=s;obtain ⟨hl,hb,h⟩:=h
   have f2:=AutoSeq1.sub_tuple_tuple
   have z1:items.size=ns.length:=by rw [← hi.length];simp
   have z2:items2.size=ms.length:=by rw [← hj.length];simp
   wp_walk using wpAny_loadPart' hl,wpAny_loadPart' hb,wpAny_forIn_list _ (fun rest b s'=>b.1=none∧s'=⟨hp,g,d,tk,os⟩∧∃(vs ws:List Value) (ns' ms':List V) (r:Bool),rest=vs.zip ws ∧
     FlatAre vs ns'∧FlatAre ws ms'∧ns'.length + items2.size=ms'.length + items.size∧lexK ns' ms'=some r∧R (.ok (.ret (.bool r))) ⟨hp,g,d,tk,os⟩) _
   case turn =>
     rintro ⟨y,x⟩ rest b s' ⟨hb',rfl,vs,ws,ns',ms',r,hz,hvi,hwi,hlen,hl,hR⟩
     cases hvi with
     | nil=>rw [List.zip_nil_left] at hz;cases hz
     | int a t hvi' =>
       cases hwi with
       | nil=>rw [List.zip_nil_right] at hz;cases hz
       | str c u hwi'=>cases hl
       | int c u hwi' =>
         rw [List.zip_cons_cons] at hz
         injection hz with hyx hrest
         injection hyx with hy hx
         subst hy hx
         simp only [lexK] at hl
         simp only [List.length_cons] at hlen
         obtain ⟨e,he,hiff⟩:=HT.eqAt_int A.in1 ⟨hp,g,d,tk,os⟩ a t c u
         refine wpAny_bind (he prog w _ _ ?_)
         cases e with
         | true =>
           rw [if_pos (hiff.mp rfl)] at hl
           wp_walk
           exact ⟨rfl,rfl,_,_,_,_,_,hrest,hvi',hwi',by omega,hl,hR⟩
         | false =>
           rw [if_neg (fun q=>absurd (hiff.mpr q) Bool.false_ne_true)] at hl
           cases hl
           have hri:=HT.rcLt_int A.in1 ⟨hp,g,d,tk,os⟩ a t c u prog w
           wp_walk using hri
           exact ⟨_,rfl,by simpa using hR⟩
     | str a t hvi' =>
       cases hwi with
       | nil=>rw [List.zip_nil_right] at hz;cases hz
       | int c u hwi'=>cases hl
       | str c u hwi' =>
         rw [List.zip_cons_cons] at hz
         injection hz with hyx hrest
         injection hyx with hy hx
         subst hy hx
         simp only [lexK] at hl
         simp only [List.length_cons] at hlen
         obtain ⟨e,he,hiff⟩:=eqAt_str A.in1 ⟨hp,g,d,tk,os⟩ a t c u
         refine wpAny_bind (he prog w _ _ ?_)
         cases e with
         | true =>
           rw [if_pos (hiff.mp rfl)] at hl
           wp_walk
           exact ⟨rfl,rfl,_,_,_,_,_,hrest,hvi',hwi',by omega,hl,hR⟩
         | false =>
           rw [if_neg (fun q=>absurd (hiff.mpr q) Bool.false_ne_true)] at hl
           cases hl
           have hri:=rcLt_str A.in1 ⟨hp,g,d,tk,os⟩ a t c u prog w
           wp_walk using hri
           exact ⟨_,rfl,by simpa using hR⟩
   case fin =>
     rintro ⟨b1,b2⟩ s' ⟨hb',rfl,vs,ws,ns',ms',r,hz,hvi,hwi,hlen,hl,hR⟩
     simp only at hb'
     subst hb'
     have hv:r=decide (items.size < items2.size):=by
       cases hvi with
       | nil =>
         cases hwi with
         | nil=>cases hl;simp only [List.length_nil] at hlen;exact (decide_eq_false (by omega)).symm
         | int c u hw=>cases hl;simp only [List.length_nil,List.length_cons] at hlen;exact (decide_eq_true (by omega)).symm
         | str c u hw=>cases hl;simp only [List.length_nil,List.length_cons] at hlen;exact (decide_eq_true (by omega)).symm
       | int a t hv =>
         cases hwi with
         | nil=>cases hl;simp only [List.length_nil,List.length_cons] at hlen;exact (decide_eq_false (by omega)).symm
         | int c u hw=>rw [List.zip_cons_cons] at hz;cases hz
         | str c u hw=>rw [List.zip_cons_cons] at hz;cases hz
       | str a t hv =>
         cases hwi with
         | nil=>cases hl;simp only [List.length_nil,List.length_cons] at hlen;exact (decide_eq_false (by omega)).symm
         | int c u hw=>rw [List.zip_cons_cons] at hz;cases hz
         | str c u hw=>rw [List.zip_cons_cons] at hz;cases hz
     rw [hv] at hR
     wp_walk
     exact ⟨_,rfl,by simpa [Builtin.Tuple.tupleCompareSizes] using hR⟩
   case h =>
     exact ⟨rfl,rfl,items.toList,items2.toList,ns,ms,_,rfl,hi,hj,by omega,hres,h⟩
end
section
variable {prog:Program}{w:World}{A:Around}{E:Value→Shared→Prop}{s:Shared}

theorem ztf {l b:Addr}{items items2:Array Value}{ns ms:List V}{res:Bool}{Q:Value→Shared→Prop} (hl:IsTup s.heap l items) (hb:IsTup s.heap b items2) (hres:lexK ns ms=some res) (hi:FlatAre items.toList ns) (hj:FlatAre items2.toList ms)
   (hu:A.units < cLine) (h:Q (.bool res) s):wpAny (model prog w) A (compareOp .Lt (.ref l) (.ref b)) Q E s:=by
 obtain ⟨⟨cls,dd,data,sl⟩,ho,hc,n,hd⟩:=id hl
 obtain ⟨⟨cls2,dd2,data2,sl2⟩,ho2,hc2,n2,hd2⟩:=id hb
 simp only at hc hd hc2 hd2
 subst hc hd hc2 hd2
 exact richCompare_meets_room (op:=.Lt) ⟨_,ho,rfl⟩ ⟨_,ho2,rfl⟩ PySem.F.slot_tuple_lt PySem.F.entry_tuple_lt (PySem.F.args_tuple_lt_2 _ _) (zle l b items items2 n n2 dd dd2 sl sl2 ns ms res hres hi hj)
   ⟨ho,ho2,show Value.bool res≠Value.notImplemented∧Q (.bool res) s from ⟨(fun x=>nomatch x),h⟩⟩ hu
end
def flatIt:D→Option V
 | .int i=>some (.int i)
 | .str z=>some (.str z)
 | _=>none
def zmf:List D→Option (List V)
 | []=>some []
 | d::ds=>(flatIt d).bind fun x=>(zmf ds).map (x::·)
def zta:D→D→Option D
 | .int i,.int j=>some (.bl (decide (i < j)))
 | .str x,.str y=>some (.bl (decide (x.cps.toList < y.cps.toList)))
 | .tup a,.tup b=>(zmf a).bind fun x=>(zmf b).bind fun y=>(lexK x y).map .bl
 | _,_=>none
section
variable {X:Cx}{K:PySem.W.Frag}{mg:Str→Option Value}
def rLtK (K:PySem.W.Frag):R2:=fun x y H Q=>(∃i j,x=.int i∧y=.int j∧Q (.bl (decide (i < j))) H)∨(∃i j,x=.str i∧y=.str j∧Q (.bl (decide (i.cps.toList < j.cps.toList))) H) ∨
 ∃a b xs ys us vs r,x=.ref a∧y=.ref b∧SqT K H a xs∧SqT K H b ys∧xs=us∧ys=vs∧(∀z∈us,(∃i,z=.int i)∨∃i,z=.str i)∧(∀z∈vs,(∃i,z=.int i)∨∃i,z=.str i)∧lexK us vs=some r∧Q (.bl r) H
theorem zwv {xs:List V}{its:List Value} (h:∀z∈xs,(∃i,z=.int i)∨∃i,z=.str i) (r:Vals xs its):FlatAre its xs:=by
 induction r with
 | nil=>exact .nil
 | cons p q ih =>
   have:=ih fun z hz=>h z (List.mem_cons_of_mem _ hz)
   rcases h _ (List.mem_cons_self ..) with ⟨i,rfl⟩ | ⟨i,rfl⟩
   · obtain ⟨t,rfl⟩:=p
     exact .int _ _ this
   · obtain ⟨t,rfl⟩:=p
     exact .str _ _ this
theorem op_ltK (hu:X.A.units < cLine):OpR X (compareOp .Lt) (rLtK X.K):=by
 intro pins s σ H x y v u Q I rx ry h
 rcases h with ⟨i,j,rfl,rfl,q⟩ | ⟨i,j,rfl,rfl,q⟩ | ⟨a,b,xs,ys,us,vs,r,rfl,rfl,ha,hb,rfl,rfl,h1,h2,hl,q⟩
 · exact op_lt pins s σ H _ _ v u Q I rx ry ⟨i,j,rfl,rfl,q⟩
 · exact zvq pins s σ H _ _ v u Q I rx ry ⟨i,j,rfl,rfl,q⟩
 · cases rx
   cases ry
   obtain ⟨its,r1,p1,_⟩:=I.tuple ha
   obtain ⟨its2,r2,p2,_⟩:=I.tuple hb
   exact ztf p1 p2 hl (zwv h1 (by simpa using r1)) (zwv h2 (by simpa using r2)) hu ⟨.bl r,H,I,rfl,q⟩
theorem zgb {ρ H}:∀{ds:List D}{xs vs:List V},zmf ds=some xs→RepL K mg ρ H ds vs→vs=xs∧∀z∈xs,(∃i,z=.int i)∨∃i,z=.str i
 | [],_,_,e,r=>by
   cases e
   unfold RepL at r
   exact ⟨r,fun z hz=>by cases hz⟩
 | d::ds,_,_,e,r=>by
   unfold RepL at r
   obtain ⟨v,r',rfl,r1,r2⟩:=r
   obtain ⟨x,q1,e⟩:=zaq e
   obtain ⟨xs,q2,e⟩:=mapS e
   subst e
   obtain ⟨rfl,f2⟩:=zgb q2 r2
   cases d with
   | int i =>
     cases q1
     cases (show v=.int i from r1)
     exact ⟨rfl,fun z hz=>(List.mem_cons.mp hz).elim (fun e=>.inl ⟨i,e⟩) (f2 z)⟩
   | str i =>
     cases q1
     cases (show v=.str i from r1)
     exact ⟨rfl,fun z hz=>(List.mem_cons.mp hz).elim (fun e=>.inr ⟨i,e⟩) (f2 z)⟩
   | _=>cases q1
theorem snd_ltK:Snd2 K mg (rLtK K) (fun _=>zta):=by
 intro ρ H S x y dx dy d Q hS rx ry e k
 dsimp only at e
 unfold zta at e
 split at e
 · cases e
   cases (show x=.int _ from rx)
   cases (show y=.int _ from ry)
   exact .inl ⟨_,_,rfl,rfl,k _ H (Ext.refl _ _) hS rfl⟩
 · cases e
   cases (show x=.str _ from rx)
   cases (show y=.str _ from ry)
   exact .inr (.inl ⟨_,_,rfl,rfl,k _ H (Ext.refl _ _) hS rfl⟩)
 · obtain ⟨xs,q1,e⟩:=zaq e
   obtain ⟨ys,q2,e⟩:=zaq e
   obtain ⟨r,q3,e⟩:=mapS e
   subst e
   obtain ⟨p,vs,rfl,t,r1⟩:=rx.refT
   obtain ⟨p2,vs2,rfl,t2,r2⟩:=ry.refT
   obtain ⟨rfl,f1⟩:=zgb q1 r1
   obtain ⟨rfl,f2⟩:=zgb q2 r2
   exact .inr (.inr ⟨p,p2,_,_,_,_,r,rfl,rfl,t.sq,t2.sq,rfl,rfl,f1,f2,q3,k _ H (Ext.refl _ _) hS rfl⟩)
 · cases e
theorem fe_ltK {a b:Expr}{f g:E}{pos:Pos}{k:Nat} (hr:Room k X.A) (ha:FE X a f) (hb:FE X b g) (hm:behindInMarks .Lt b=false:=by exact zee _):FE X (.Compare a [.Lt] [b] pos) (e2 zta f g):=znw (op_ltK (by have:=hr.un;omega)) snd_ltK ha hb hm
end
end F
namespace F
open PySem L2 PySem.Spec PyProof.Rows
section
open Classical
noncomputable def zdl (a:Nat) (us:List D) (c:B) (g:E) (fr:Ev):List D→Sto→Option (List D×Sto)
 | [],S=>if S[a]? = some (.lst us) then some ([],S) else none
 | d::ds,S=>if S[a]? = some (.lst us) then (c (some d::fr) S).bind fun p=>if p.1=true then (g (some d::fr) p.2).bind fun q=>(zdl a us c g fr ds q.2).bind fun r=>some (q.1::r.1,r.2) else zdl a us c g fr ds p.2 else none
end
theorem compFO_at {a:Nat}{us:List D}{c:B}{g:E}{fr:Ev}{ds:List D}{S:Sto}{r:List D×Sto} (h:zdl a us c g fr ds S=some r):S[a]? = some (.lst us):=by
 cases ds with
 | nil =>
   unfold zdl at h
   split at h
   · assumption
   · cases h
 | cons d ds =>
   unfold zdl at h
   split at h
   · assumption
   · cases h
theorem zks {a:Nat}{us:List D}{c:B}{g:E}{fr:Ev}{S:Sto} (h:S[a]? = some (.lst us)):zdl a us c g fr [] S=some ([],S):=by
 unfold zdl;rw [if_pos h]
theorem zje {a:Nat}{us:List D}{c:B}{g:E}{fr:Ev}{d:D}{ds:List D}{S:Sto} (h:S[a]? = some (.lst us)):zdl a us c g fr (d::ds) S=(c (some d::fr) S).bind fun p=>if p.1=true then (g (some d::fr) p.2).bind fun q=>(zdl a us c g fr ds q.2).bind fun r=>some (q.1::r.1,r.2) else zdl a us c g fr ds p.2:=by
 rw [zdl,if_pos h]
section
variable {X:Cx}{pins:List (Addr×Obj)}{σ:L2.St}{H:Hp}{s:Shared}{scope:Scope}{x:Str}{N':List Str}{fr:List Nat}
def CompIO (X X':Cx) (a0:Nat) (cn:B) (g:E) (fre:Ev) (t:L2.St) (fp:List Addr) (tn:Nat→Heap→Prop) (Dl:Addr) (us:List D) (ρ1:List Addr) (H2:Hp) (ds:List D) (Sf:Sto) (m:Nat) (st:Shared):Prop :=
 ∃(i:Nat) (ρ':List Addr) (H':Hp) (ys:List V) (its:List Value) (acc rest:List D) (Si:Sto) (w:Option V),m=us.length - i∧i≤us.length∧Inv X' [] (w::t) H' st∧tn i st.heap∧(∀b∈fp,H' b=none)∧H' Dl=none∧st.heap.PlainList Dl (List.toArray its)∧Vals ys its ∧
   Ext ρ1 H2 ρ' H'∧StOk X.K X.mg ρ' H' Si∧RepL X.K X.mg ρ' H' acc ys∧acc.length≤i∧zdl a0 us cn g fre (us.drop i) Si=some (rest,Sf)∧ds=acc++rest
end
end F
set_option maxHeartbeats 4000000
namespace Srt
open PySem PyProof.Rows
def zcr:Bool→Keyed→Array Keyed→Nat→Nat→Nat→StateT SortSt Sem (Option Nat):=sortPriv% PySem.Builtin.gallop
def zpn (beyond:Nat→StateT SortSt Sem (Option Bool)) (n hint:Nat):StateT SortSt Sem (Option Nat):=do
 let mut lastofs:=0
 let mut ofs:=1
 let mut lo:=0
 let mut hi:=0
 let some right ← beyond hint | return none
 if right then
   let maxofs:=n - hint
   for _ in [0:n] do
     if ofs ≥ maxofs then break
     let some more ← beyond (hint + ofs) | return none
     if !more then break
     lastofs:=ofs
     ofs:=2 * ofs + 1
   lo:=hint + lastofs + 1
   hi:=hint + min ofs maxofs
 else
   let maxofs:=hint + 1
   for _ in [0:n] do
     if ofs ≥ maxofs then break
     let some found ← beyond (hint - ofs) | return none
     if found then break
     lastofs:=ofs
     ofs:=2 * ofs + 1
   lo:=hint + 1 - min ofs maxofs
   hi:=hint - lastofs
 for _ in [0:n] do
   if lo ≥ hi then break
   let m:=lo + (hi - lo) / 2
   let some more ← beyond m | return none
   if more then lo:=m + 1 else hi:=m
 return some hi
def byd (left:Bool) (key:Keyed) (arr:Array Keyed) (base i:Nat):StateT SortSt Sem (Option Bool):=do
 let x ← elem' arr (base + i)
 if left then lt' x key else return (← lt' key x).map (!·)
theorem zfl (left:Bool) (key:Keyed) (arr:Array Keyed) (base n hint:Nat):zcr left key arr base n hint=zpn (byd left key arr base) n hint:=rfl
section
variable {M:Model}{A:Around}{E:Value→Shared→Prop}{s:Shared}{n hint:Nat}{P:Nat→Bool}{beyond:Nat→StateT SortSt Sem (Option Bool)}{st:SortSt}
def search (beyond:Nat→StateT SortSt Sem (Option Bool)) (n:Nat) (c:Option (Option Nat)×Nat×Nat):StateT SortSt Sem (Option (Option Nat)×Nat×Nat) :=
 forIn [0:n] c fun x __s =>
   if __s.snd.fst ≥ __s.snd.snd then pure (ForInStep.done (none,__s.snd.fst,__s.snd.snd))
   else do
     let __x ← beyond (__s.snd.fst + (__s.snd.snd - __s.snd.fst) / 2)
     match __x with
     | some more =>
       if more=true then pure (ForInStep.yield (none,__s.snd.fst + (__s.snd.snd - __s.snd.fst) / 2 + 1,__s.snd.snd))
       else pure (ForInStep.yield (none,__s.snd.fst,__s.snd.fst + (__s.snd.snd - __s.snd.fst) / 2))
     | _=>pure (ForInStep.done (some none,__s.snd.fst,__s.snd.snd))
theorem zke (hb:∀i,i < n→∀Q:Option Bool→SortSt→Prop,Q (some (P i)) st→wpS M A E s (beyond i) Q st) (hP:∀i j,i≤j→j < n→P j=true→P i=true) {lo hi:Nat} (h1:lo≤hi) (h2:hi≤n) (h3:∀i,i < lo→P i=true) (h4:∀i,hi≤i→i < n→P i=false) {Q:Option (Option Nat)×Nat×Nat→SortSt→Prop}
   (h:∀k,k≤n→(∀i,i < k→P i=true)→(∀i,k≤i→i < n→P i=false)→Q (none,k,k) st):wpS M A E s (search beyond n (none,lo,hi)) Q st:=by
 unfold search
 refine wpS_forRange (I:=fun x c st'=>st'=st∧∃lo hi,c=(none,lo,hi)∧lo≤hi∧hi≤n∧(∀i,i < lo→P i=true)∧(∀i,hi≤i→i < n→P i=false)∧hi - lo + x≤n) ?_ ?_ ⟨rfl,lo,hi,rfl,h1,h2,h3,h4,by omega⟩
 · rintro x c st' _ hx ⟨rfl,lo,hi,rfl,h1,h2,h3,h4,h5⟩
   dsimp only
   by_cases e:lo ≥ hi
   · rw [if_pos e]
     have:lo=hi:=by omega
     subst this
     exact wpS_pure (h lo h2 h3 h4)
   · rw [if_neg e]
     refine wpS_bind (hb _ (by omega) _ ?_)
     dsimp only
     cases hm:P (lo + (hi - lo) / 2)
     · simp only [Bool.false_eq_true,if_false]
       refine wpS_pure ⟨rfl,lo,lo + (hi - lo) / 2,rfl,by omega,by omega,h3,fun i hi1 hi2=>?_,by omega⟩
       cases q:P i
       · rfl
       · rw [hP _ _ hi1 hi2 q] at hm;cases hm
     · simp only [if_true]
       exact wpS_pure ⟨rfl,lo + (hi - lo) / 2 + 1,hi,rfl,by omega,by omega,fun i hi1=>hP i _ (by omega) (by omega) hm,h4,by omega⟩
 · rintro c st' ⟨rfl,lo,hi,rfl,h1,h2,h3,h4,h5⟩
   have:lo=hi:=by omega
   subst this
   exact h lo h2 h3 h4
theorem zeg (hb:∀i,i < n→∀Q:Option Bool→SortSt→Prop,Q (some (P i)) st→wpS M A E s (beyond i) Q st) (hP:∀i j,i≤j→j < n→P j=true→P i=true) (hh:hint < n) {Q:Option Nat→SortSt→Prop}
   (h:∀k,k≤n→(∀i,i < k→P i=true)→(∀i,k≤i→i < n→P i=false)→Q (some k) st):wpS M A E s (zpn beyond n hint) Q st:=by
 unfold zpn
 refine wpS_bind (hb hint hh _ ?_)
 dsimp only
 cases hr:P hint
 · simp only [Bool.false_eq_true,if_false]
   refine wpS_bind (wpS_mono (wpS_forRange (I:=fun x c st'=>st'=st∧∃l o,c=(none,l,o)∧l < o∧l≤hint∧P (hint - l)=false∧x≤o)
     (Q:=fun c st'=>st'=st∧∃l o,c=(none,l,o)∧l < o∧l≤hint∧P (hint - l)=false∧(hint + 1≤o∨P (hint - o)=true)) ?_ ?_ ⟨rfl,0,1,rfl,by omega,by omega,hr,by omega⟩) ?_)
   · rintro x c st' _ hx ⟨rfl,l,o,rfl,g1,g2,g3,g4⟩
     dsimp only
     by_cases e:o ≥ hint + 1
     · rw [if_pos e];exact wpS_pure ⟨rfl,l,o,rfl,g1,g2,g3,.inl e⟩
     · rw [if_neg e]
       refine wpS_bind (hb _ (by omega) _ ?_)
       dsimp only
       cases hm:P (hint - o)
       · simp only [Bool.false_eq_true,if_false]
         exact wpS_pure ⟨rfl,o,2 * o + 1,rfl,by omega,by omega,hm,by omega⟩
       · simp only [if_true]
         exact wpS_pure ⟨rfl,l,o,rfl,g1,g2,g3,.inr hm⟩
   · rintro c st' ⟨rfl,l,o,rfl,g1,g2,g3,g4⟩
     exact ⟨rfl,l,o,rfl,g1,g2,g3,.inl (by omega)⟩
   · rintro c st2 ⟨rfl,l,o,rfl,g1,g2,g3,g4⟩
     dsimp only
     refine wpS_bind (wpS_mono (zke hb hP (lo:=hint + 1 - min o (hint + 1)) (hi:=hint - l) (by omega) (by omega) (fun i hi=>?_) (fun i h1 h2=>?_) (Q:=fun c st'=>st'=st2∧∃k,c=(none,k,k)∧k≤n∧(∀i,i < k→P i=true)∧(∀i,k≤i→i < n→P i=false)) fun k k1 k2 k3=>⟨rfl,k,rfl,k1,k2,k3⟩) ?_)
     · rcases g4 with g4 | g4
       · omega
       · exact hP i _ (by omega) (by omega) g4
     · cases q:P i
       · rfl
       · rw [hP _ _ h1 h2 q] at g3;cases g3
     · rintro c st' ⟨rfl,k,rfl,k1,k2,k3⟩
       exact wpS_pure (h k k1 k2 k3)
 · simp only [if_true]
   refine wpS_bind (wpS_mono (wpS_forRange (I:=fun x c st'=>st'=st∧∃l o,c=(none,l,o)∧l < o∧hint + l < n∧P (hint + l)=true∧x≤o)
     (Q:=fun c st'=>st'=st∧∃l o,c=(none,l,o)∧l < o∧hint + l < n∧P (hint + l)=true∧(n - hint≤o∨P (hint + o)=false)) ?_ ?_ ⟨rfl,0,1,rfl,by omega,by omega,hr,by omega⟩) ?_)
   · rintro x c st' _ hx ⟨rfl,l,o,rfl,g1,g2,g3,g4⟩
     dsimp only
     by_cases e:o ≥ n - hint
     · rw [if_pos e];exact wpS_pure ⟨rfl,l,o,rfl,g1,g2,g3,.inl e⟩
     · rw [if_neg e]
       refine wpS_bind (hb _ (by omega) _ ?_)
       dsimp only
       cases hm:P (hint + o)
       · simp only [Bool.not_false,if_true]
         exact wpS_pure ⟨rfl,l,o,rfl,g1,g2,g3,.inr hm⟩
       · simp only [Bool.not_true,Bool.false_eq_true,if_false]
         exact wpS_pure ⟨rfl,o,2 * o + 1,rfl,by omega,by omega,hm,by omega⟩
   · rintro c st' ⟨rfl,l,o,rfl,g1,g2,g3,g4⟩
     exact ⟨rfl,l,o,rfl,g1,g2,g3,.inl (by omega)⟩
   · rintro c st2 ⟨rfl,l,o,rfl,g1,g2,g3,g4⟩
     dsimp only
     refine wpS_bind (wpS_mono (zke hb hP (lo:=hint + l + 1) (hi:=hint + min o (n - hint)) (by omega) (by omega) (fun i hi=>hP i _ (by omega) g2 g3) (fun i h1 h2=>?_) (Q:=fun c st'=>st'=st2∧∃k,c=(none,k,k)∧k≤n∧(∀i,i < k→P i=true)∧(∀i,k≤i→i < n→P i=false)) fun k k1 k2 k3=>⟨rfl,k,rfl,k1,k2,k3⟩) ?_)
     · rcases g4 with g4 | g4
       · omega
       · cases q:P i
         · rfl
         · rw [hP (hint + o) i (by omega) h2 q] at g4;cases g4
     · rintro c st' ⟨rfl,k,rfl,k1,k2,k3⟩
       exact wpS_pure (h k k1 k2 k3)
end
end Srt
set_option maxHeartbeats 4000000
namespace Srt
open PySem PyProof.Rows
def zlm:Array Keyed→Array Keyed→StateT SortSt Sem (Array Keyed):=sortPriv% PySem.Builtin.mergeLo
def zln:Array Keyed→Array Keyed→StateT SortSt Sem (Array Keyed):=sortPriv% PySem.Builtin.mergeHi
abbrev setG (st:SortSt) (g:Nat):SortSt:=SortSt.mk' (kindOf st) (arrOf st) (pendingOf st) g (failedOf st)
def smg (g:Nat):StateT SortSt Sem Unit:=modify fun st=>setG st g
theorem zpc (a b:Array Keyed):zlm a b=(do
 rule "list.sort.merge-lo"
 let total:=a.size + b.size
 let done (out:Array Keyed) (ia ib:Nat):=out++a.extract ia a.size++b.extract ib b.size
 let lastOfA (out:Array Keyed) (ia ib:Nat):=out++b.extract ib b.size++a.extract ia a.size
 let mut out:Array Keyed:=#[← elem' b 0]
 let mut ia:=0
 let mut ib:=1
 if ib == b.size then return done out ia ib
 if ia + 1 == a.size then return lastOfA out ia ib
 let mut minGallop:=gallopOf (← get)
 for _ in [0:total] do
   let mut acount:=0
   let mut bcount:=0
   for _ in [0:total] do
     let some bWins ← lt' (← elem' b ib) (← elem' a ia) | return done out ia ib
     if bWins then
       out:=out.push (← elem' b ib);ib:=ib + 1;bcount:=bcount + 1;acount:=0
       if ib == b.size then return done out ia ib
       if bcount ≥ minGallop then break
     else
       out:=out.push (← elem' a ia);ia:=ia + 1;acount:=acount + 1;bcount:=0
       if ia + 1 == a.size then return lastOfA out ia ib
       if acount ≥ minGallop then break
   rule "list.sort.gallop"
   minGallop:=minGallop + 1
   for _ in [0:total] do
     if minGallop > 1 then minGallop:=minGallop - 1
     smg minGallop
     let some k ← zcr false (← elem' b ib) a ia (a.size - ia) 0 | return done out ia ib
     acount:=k
     if k > 0 then
       out:=out++a.extract ia (ia + k);ia:=ia + k
       if ia + 1 == a.size then return lastOfA out ia ib
       if ia == a.size then return done out ia ib
     out:=out.push (← elem' b ib);ib:=ib + 1
     if ib == b.size then return done out ia ib
     let some k ← zcr true (← elem' a ia) b ib (b.size - ib) 0 | return done out ia ib
     bcount:=k
     if k > 0 then
       out:=out++b.extract ib (ib + k);ib:=ib + k
       if ib == b.size then return done out ia ib
     out:=out.push (← elem' a ia);ia:=ia + 1
     if ia + 1 == a.size then return lastOfA out ia ib
     if acount < 7 && bcount < 7 then break
   minGallop:=minGallop + 1
   smg minGallop
 unsupported "internal:list.sort.merge-bound"):=rfl
section
variable {blt:Keyed→Keyed→Bool}
def le (blt:Keyed→Keyed→Bool) (x y:Keyed):Prop:=blt y x=false
structure Mg (blt:Keyed→Keyed→Bool) (T O A B:List Keyed):Prop where
 pa:(O++A).Pairwise (le blt)
 pb:(O++B).Pairwise (le blt)
 pm:(O++(A++B)).Perm T
def Good (blt:Keyed→Keyed→Bool) (T:List Keyed) (r:List Keyed):Prop:=r.Pairwise (le blt)∧r.Perm T
variable {T O A B C:List Keyed}
theorem Mg.chunkA (h:Mg blt T O (C++A) B) (hc:∀x∈C,∀z∈B,le blt x z):Mg blt T (O++C) A B:=by
 refine ⟨by rw [List.append_assoc];exact h.pa,?_,?_⟩
 · have h1:=List.pairwise_append.mp h.pa
   have h2:=List.pairwise_append.mp h.pb
   have h3:=List.pairwise_append.mp h1.2.1
   refine List.pairwise_append.mpr ⟨List.pairwise_append.mpr ⟨h1.1,h3.1,fun x hx y hy=>h1.2.2 x hx y (List.mem_append_left _ hy)⟩,h2.2.1,fun x hx z hz=>?_⟩
   rcases List.mem_append.mp hx with hx | hx
   · exact h2.2.2 x hx z hz
   · exact hc x hx z hz
 · have:=h.pm
   rw [List.append_assoc] at this ⊢
   exact this
theorem Mg.chunkB (h:Mg blt T O A (C++B)) (hc:∀x∈C,∀z∈A,le blt x z):Mg blt T (O++C) A B:=by
 refine ⟨?_,by rw [List.append_assoc];exact h.pb,?_⟩
 · have h1:=List.pairwise_append.mp h.pb
   have h2:=List.pairwise_append.mp h.pa
   have h3:=List.pairwise_append.mp h1.2.1
   refine List.pairwise_append.mpr ⟨List.pairwise_append.mpr ⟨h1.1,h3.1,fun x hx y hy=>h1.2.2 x hx y (List.mem_append_left _ hy)⟩,h2.2.1,fun x hx z hz=>?_⟩
   rcases List.mem_append.mp hx with hx | hx
   · exact h2.2.2 x hx z hz
   · exact hc x hx z hz
 · refine List.Perm.trans ?_ h.pm
   rw [List.append_assoc]
   refine List.Perm.append_left O ?_
   rw [← List.append_assoc,← List.append_assoc]
   exact List.Perm.append_right B List.perm_append_comm
theorem Mg.finA (h:Mg blt T O A []):Good blt T (O++A):=⟨h.pa,by have:=h.pm;rw [List.append_nil] at this;exact this⟩
theorem Mg.finB (h:Mg blt T O [] B):Good blt T (O++B):=⟨h.pb,h.pm⟩
theorem Mg.lastA {x:Keyed} (h:Mg blt T O [x] B) (hx:∀z∈B,le blt z x):Good blt T (O++(B++[x])):=by
 refine ⟨?_,List.Perm.trans (List.Perm.append_left O List.perm_append_comm) h.pm⟩
 have h1:=List.pairwise_append.mp h.pa
 have h2:=List.pairwise_append.mp h.pb
 refine List.pairwise_append.mpr ⟨h1.1,List.pairwise_append.mpr ⟨h2.2.1,List.pairwise_singleton _ _,fun z hz y hy=>by rw [List.mem_singleton.mp hy];exact hx z hz⟩,fun y hy z hz=>?_⟩
 rcases List.mem_append.mp hz with hz | hz
 · exact h2.2.2 y hy z hz
 · exact h1.2.2 y hy z hz
theorem Mg.len (h:Mg blt T O A B):O.length + A.length + B.length=T.length:=by
 have:=h.pm.length_eq
 simp only [List.length_append] at this
 omega
def ix (a:Array Keyed) (i:Nat):Keyed:=(a[i]?).getD (.none,.none)
variable {a b:Array Keyed}{i j k:Nat}
theorem zri (h:i < a.size):a[i]? = some (ix a i):=by unfold ix;rw [Array.getElem?_eq_getElem h];rfl
theorem zpr (h:i < a.size):a.toList.drop i=ix a i::a.toList.drop (i + 1):=by
 have e:a.toList[i]'(by simpa using h)=ix a i:=by
   unfold ix;rw [Array.getElem?_eq_getElem h];simp
 rw [← e]
 exact List.drop_eq_getElem_cons (by simpa using h)
theorem drop_ex (h:i + k≤a.size):a.toList.drop i=(a.extract i (i + k)).toList++a.toList.drop (i + k):=by
 rw [Array.toList_extract,List.extract_eq_drop_take]
 rw [show i + k - i=k by omega,← List.drop_drop]
 exact (List.take_append_drop k _).symm
theorem zrf {x:Keyed} (h:x∈(a.extract i (i + k)).toList):∃j,j < k∧i + j < a.size∧x=ix a (i + j):=by
 rw [Array.toList_extract,List.extract_eq_drop_take,show i + k - i=k by omega] at h
 obtain ⟨j,hj,e⟩:=List.getElem_of_mem h
 rw [List.length_take,List.length_drop,Array.length_toList] at hj
 refine ⟨j,by omega,by omega,?_⟩
 rw [List.getElem_take,List.getElem_drop] at e
 rw [← e]
 unfold ix
 rw [Array.getElem?_eq_getElem (by omega)]
 simp
theorem zfj {x:Keyed} (h:x∈a.toList.drop i):∃j,i≤j∧j < a.size∧x=ix a j:=by
 obtain ⟨j,hj,e⟩:=List.getElem_of_mem h
 rw [List.length_drop,Array.length_toList] at hj
 refine ⟨i + j,by omega,by omega,?_⟩
 rw [List.getElem_drop] at e
 rw [← e]
 unfold ix
 rw [Array.getElem?_eq_getElem (by omega)]
 simp
theorem zdx (h:i < a.size):ix a i∈a.toList:=by
 have e:a.toList[i]'(by simpa using h)=ix a i:=by
   unfold ix;rw [Array.getElem?_eq_getElem h];simp
 rw [← e];exact List.getElem_mem _
theorem zru:(a.extract i a.size).toList=a.toList.drop i:=by
 rw [Array.toList_extract,List.extract_eq_drop_take]
 rw [← Array.length_toList,List.take_of_length_le (by rw [List.length_drop];omega)]
def Srtd (blt:Keyed→Keyed→Bool) (a:Array Keyed):Prop:=∀i j,i≤j→j < a.size→le blt (ix a i) (ix a j)
theorem zlg (h:Srtd blt a):a.toList.Pairwise (le blt):=by
 rw [List.pairwise_iff_getElem]
 intro i j hi hj hij
 have e:∀{i} (h:i < a.toList.length),a.toList[i]=ix a i:=fun {i} h=>by
   rw [Array.length_toList] at h
   unfold ix;rw [Array.getElem?_eq_getElem h];simp
 rw [e hi,e hj]
 exact h i j (by omega) (by rw [Array.length_toList] at hj;exact hj)
end
end Srt
set_option maxHeartbeats 4000000
namespace Srt
open PySem PyProof.Rows
section
variable {prog:Program}{w:World}{A:Around}{E:Value→Shared→Prop}{s:Shared}{blt:Keyed→Keyed→Bool}{U:Keyed→Prop}{kd:SortKind}{st:SortSt}{a b:Array Keyed}
structure Cmp (prog:Program) (w:World) (A:Around) (E:Value→Shared→Prop) (s:Shared) (kd:SortKind) (U:Keyed→Prop) (blt:Keyed→Keyed→Bool):Prop where
 lt:∀x y,U x→U y→∀(st:SortSt) (Q:Option Bool→SortSt→Prop),kindOf st=kd→Q (some (blt x y)) st→wpS (model prog w) A E s (lt' x y) Q st
 asy:∀x y,blt x y=true→blt y x=false
 tr:∀x y z,blt y x=false→blt z y=false→blt z x=false
theorem zbc {i:Nat}{Q:Keyed→SortSt→Prop}{M:Model} (hi:i < a.size) (h:Q (ix a i) st):wpS M A E s (elem' a i) Q st:=by
 rw [elem'_eq,zri hi]
 exact wpS_pure h
theorem zfi {nm:String}{Q:Unit→SortSt→Prop} (h:Q () st):wpS (model prog w) A E s (liftM (rule nm):StateT SortSt Sem Unit) Q st:=wpS_lift (wpAny_rule ⟨rfl,h⟩)
theorem zlb {g:Nat}{Q:Unit→SortSt→Prop}{M:Model} (h:Q () (setG st g)):wpS M A E s (smg g) Q st:=wpS_modify h
theorem zqh (C:Cmp prog w A E s kd U blt) (hk:kindOf st=kd) {y:Keyed}{i n hint:Nat} (uy:U y) (ua:∀x∈a.toList,U x) (sa:Srtd blt a) (hn:i + n≤a.size) (hh:hint < n) {Q:Option Nat→SortSt→Prop}
   (h:∀k,k≤n→(∀j,j < k→le blt (ix a (i + j)) y)→(∀j,k≤j→j < n→blt y (ix a (i + j))=true)→Q (some k) st):wpS (model prog w) A E s (zcr false y a i n hint) Q st:=by
 rw [zfl]
 refine zeg (P:=fun j=>!(blt y (ix a (i + j)))) (fun j hj Q hq=>?_) (fun j l hjl hl hp=>?_) hh fun k k1 k2 k3=>h k k1 (fun j hj=>by have:=k2 j hj;unfold le;simpa using this) (fun j h1 h2=>by have:=k3 j h1 h2;simpa using this)
 · unfold byd
   refine wpS_bind (zbc (by omega) ?_)
   simp only [Bool.false_eq_true,if_false]
   exact wpS_bind (C.lt _ _ uy (ua _ (zdx (by omega))) _ _ hk (wpS_pure hq))
 · have e:blt y (ix a (i + l))=false:=by simpa using hp
   have:=C.tr _ _ _ (sa (i + j) (i + l) (by omega) (by omega)) e
   simp [this]
theorem zqg (C:Cmp prog w A E s kd U blt) (hk:kindOf st=kd) {x:Keyed}{i n hint:Nat} (ux:U x) (ub:∀x∈b.toList,U x) (sb:Srtd blt b) (hn:i + n≤b.size) (hh:hint < n) {Q:Option Nat→SortSt→Prop}
   (h:∀k,k≤n→(∀j,j < k→blt (ix b (i + j)) x=true)→(∀j,k≤j→j < n→le blt x (ix b (i + j)))→Q (some k) st):wpS (model prog w) A E s (zcr true x b i n hint) Q st:=by
 rw [zfl]
 refine zeg (P:=fun j=>blt (ix b (i + j)) x) (fun j hj Q hq=>?_) (fun j l hjl hl hp=>?_) hh h
 · unfold byd
   refine wpS_bind (zbc (by omega) ?_)
   simp only [if_true]
   exact C.lt _ _ (ub _ (zdx (by omega))) ux _ _ hk hq
 · cases q:blt (ix b (i + j)) x
   · have:=C.tr x (ix b (i + j)) (ix b (i + l)) q (sb (i + j) (i + l) (by omega) (by omega))
     rw [this] at hp;cases hp
   · rfl
structure At (blt:Keyed→Keyed→Bool) (a b out:Array Keyed) (ia ib:Nat):Prop where
 ha:ia + 1 < a.size
 hb:ib < b.size
 mg:Mg blt (a.toList++b.toList) out.toList (a.toList.drop ia) (b.toList.drop ib)
structure Two (blt:Keyed→Keyed→Bool) (U:Keyed→Prop) (a b:Array Keyed):Prop where
 sa:Srtd blt a
 sb:Srtd blt b
 ua:∀x∈a.toList,U x
 ub:∀x∈b.toList,U x
 la:∀z∈b.toList,le blt z (ix a (a.size - 1))
abbrev zed (blt:Keyed→Keyed→Bool) (a b r:Array Keyed):Prop:=Good blt (a.toList++b.toList) r.toList
variable {out:Array Keyed}{ia ib k:Nat}
theorem At.le (h:At blt a b out ia ib):out.size + 3≤a.size + b.size:=by
 have:=h.mg.len
 simp only [List.length_drop,List.length_append,Array.length_toList] at this
 have:=h.ha
 have:=h.hb
 omega
theorem zgk (m:Mg blt (a.toList++b.toList) out.toList (a.toList.drop ia) (b.toList.drop ib)) (hb:ib=b.size∨ia=a.size):zed blt a b (out++a.extract ia++b.extract ib):=by
 unfold zed
 rw [Array.toList_append,Array.toList_append,zru,zru]
 rcases hb with rfl | rfl
 · rw [List.drop_of_length_le (l:=b.toList) (by simp)] at m ⊢
   rw [List.append_nil]
   exact m.finA
 · rw [List.drop_of_length_le (l:=a.toList) (by simp)] at m ⊢
   rw [List.append_nil]
   exact m.finB
theorem zhv (T:Two blt U a b) (m:Mg blt (a.toList++b.toList) out.toList (a.toList.drop ia) (b.toList.drop ib)) (ha:ia + 1=a.size):zed blt a b (out++b.extract ib++a.extract ia):=by
 unfold zed
 rw [Array.toList_append,Array.toList_append,zru,zru,List.append_assoc]
 have e:a.toList.drop ia=[ix a ia]:=by
   rw [zpr (by omega),List.drop_of_length_le (by simp;omega)]
 rw [e] at m ⊢
 refine m.lastA fun z hz=>?_
 have:=T.la z (List.mem_of_mem_drop hz)
 rw [show a.size - 1=ia by omega] at this
 exact this
theorem zvh (C:Cmp prog w A E s kd U blt) (T:Two blt U a b) (m:Mg blt (a.toList++b.toList) out.toList (a.toList.drop ia) (b.toList.drop ib)) (hb:ib < b.size) (ha:ia < a.size→blt (ix b ib) (ix a ia)=true):Mg blt (a.toList++b.toList) (out.push (ix b ib)).toList (a.toList.drop ia) (b.toList.drop (ib + 1)):=by
 rw [zpr hb] at m
 rw [Array.toList_push]
 refine Mg.chunkB (C:=[ix b ib]) m fun x hx z hz=>?_
 rw [List.mem_singleton.mp hx]
 obtain ⟨j,j1,j2,rfl⟩:=zfj hz
 exact C.tr _ _ _ (C.asy _ _ (ha (by omega))) (T.sa ia j j1 j2)
theorem push_a (C:Cmp prog w A E s kd U blt) (T:Two blt U a b) (m:Mg blt (a.toList++b.toList) out.toList (a.toList.drop ia) (b.toList.drop ib)) (ha:ia < a.size) (hb:ib < b.size→le blt (ix a ia) (ix b ib)):Mg blt (a.toList++b.toList) (out.push (ix a ia)).toList (a.toList.drop (ia + 1)) (b.toList.drop ib):=by
 rw [zpr ha] at m
 rw [Array.toList_push]
 refine Mg.chunkA (C:=[ix a ia]) m fun x hx z hz=>?_
 rw [List.mem_singleton.mp hx]
 obtain ⟨j,j1,j2,rfl⟩:=zfj hz
 exact C.tr _ _ _ (hb (by omega)) (T.sb ib j j1 j2)
theorem take_a (C:Cmp prog w A E s kd U blt) (T:Two blt U a b) (m:Mg blt (a.toList++b.toList) out.toList (a.toList.drop ia) (b.toList.drop ib)) (hk:ia + k≤a.size) (h:∀j,j < k→le blt (ix a (ia + j)) (ix b ib)):Mg blt (a.toList++b.toList) (out++a.extract ia (ia + k)).toList (a.toList.drop (ia + k)) (b.toList.drop ib):=by
 rw [drop_ex hk] at m
 rw [Array.toList_append]
 refine Mg.chunkA m fun x hx z hz=>?_
 obtain ⟨j,j1,j2,rfl⟩:=zrf hx
 obtain ⟨l,l1,l2,rfl⟩:=zfj hz
 exact C.tr _ _ _ (h j j1) (T.sb ib l l1 l2)
theorem take_b (C:Cmp prog w A E s kd U blt) (T:Two blt U a b) (m:Mg blt (a.toList++b.toList) out.toList (a.toList.drop ia) (b.toList.drop ib)) (hk:ib + k≤b.size) (h:∀j,j < k→blt (ix b (ib + j)) (ix a ia)=true):Mg blt (a.toList++b.toList) (out++b.extract ib (ib + k)).toList (a.toList.drop ia) (b.toList.drop (ib + k)):=by
 rw [drop_ex hk] at m
 rw [Array.toList_append]
 refine Mg.chunkB m fun x hx z hz=>?_
 obtain ⟨j,j1,j2,rfl⟩:=zrf hx
 obtain ⟨l,l1,l2,rfl⟩:=zfj hz
 exact C.tr _ _ _ (C.asy _ _ (h j j1)) (T.sa ia l l1 l2)
end
end Srt
set_option maxHeartbeats 4000000
namespace Srt
open PySem PyProof.Rows
section
variable {prog:Program}{w:World}{A:Around}{E:Value→Shared→Prop}{s:Shared}{blt:Keyed→Keyed→Bool}{U:Keyed→Prop}{kd:SortKind}{st:SortSt}{a b:Array Keyed}
abbrev Gs:=Option (Array Keyed)×Array Keyed×Nat×Nat×Nat×Nat×Nat
def rest2 (a b out:Array Keyed) (ia ib mg k k1:Nat):StateT SortSt Sem (ForInStep Gs):=do
 let x ← elem' a ia
 if (ia + 1 + 1 == a.size)=true then pure (ForInStep.done (some (out.push x++b.extract ib++a.extract (ia + 1)),out.push x,ia + 1,ib,mg,k,k1))
 else if (decide (k < 7) && decide (k1 < 7))=true then pure (ForInStep.done (none,out.push x,ia + 1,ib,mg,k,k1)) else pure (ForInStep.yield (none,out.push x,ia + 1,ib,mg,k,k1))
def rest1 (a b out:Array Keyed) (ia ib mg k bc:Nat):StateT SortSt Sem (ForInStep Gs):=do
 let y ← elem' b ib
 if (ib + 1 == b.size)=true then pure (ForInStep.done (some (out.push y++a.extract ia++b.extract (ib + 1)),out.push y,ia,ib + 1,mg,k,bc))
 else do
   let x ← elem' a ia
   let r ← zcr true x b (ib + 1) (b.size - (ib + 1)) 0
   match r with
   | some k1 =>
     if k1 > 0 then
       if (ib + 1 + k1 == b.size)=true then pure (ForInStep.done (some (out.push y++b.extract (ib + 1) (ib + 1 + k1)++a.extract ia++b.extract (ib + 1 + k1)),out.push y++b.extract (ib + 1) (ib + 1 + k1),ia,ib + 1 + k1,mg,k,k1))
       else rest2 a b (out.push y++b.extract (ib + 1) (ib + 1 + k1)) ia (ib + 1 + k1) mg k k1
     else rest2 a b (out.push y) ia (ib + 1) mg k k1
   | _=>pure (ForInStep.done (some (out.push y++a.extract ia++b.extract (ib + 1)),out.push y,ia,ib + 1,mg,k,bc))
def leap (a b out:Array Keyed) (ia ib mg ac bc:Nat):StateT SortSt Sem (ForInStep Gs):=do
 smg mg
 let y ← elem' b ib
 let r ← zcr false y a ia (a.size - ia) 0
 match r with
 | some k =>
   if k > 0 then
     if (ia + k + 1 == a.size)=true then pure (ForInStep.done (some (out++a.extract ia (ia + k)++b.extract ib++a.extract (ia + k)),out++a.extract ia (ia + k),ia + k,ib,mg,k,bc))
     else if (ia + k == a.size)=true then pure (ForInStep.done (some (out++a.extract ia (ia + k)++a.extract (ia + k)++b.extract ib),out++a.extract ia (ia + k),ia + k,ib,mg,k,bc))
     else rest1 a b (out++a.extract ia (ia + k)) (ia + k) ib mg k bc
   else rest1 a b out ia ib mg k bc
 | _=>pure (ForInStep.done (some (out++a.extract ia++b.extract ib),out,ia,ib,mg,ac,bc))
def Lp (blt:Keyed→Keyed→Bool) (a b:Array Keyed) (N:Nat) (st:SortSt) (r:ForInStep Gs) (st2:SortSt):Prop:=∃g2,st2=setG st g2∧((∃out2 ia2 ib2 mg2 ac2 bc2,(r=.done (none,out2,ia2,ib2,mg2,ac2,bc2)∨r=.yield (none,out2,ia2,ib2,mg2,ac2,bc2))∧At blt a b out2 ia2 ib2∧N≤out2.size)∨∃v q,r=.done (some v,q)∧zed blt a b v)
variable {out:Array Keyed}{ia ib mg k k1 ac bc N:Nat}
theorem zmw (C:Cmp prog w A E s kd U blt) (T:Two blt U a b) {g:Nat} (m:Mg blt (a.toList++b.toList) out.toList (a.toList.drop ia) (b.toList.drop ib)) (ha:ia + 1 < a.size) (hb:ib < b.size) (hx:le blt (ix a ia) (ix b ib)) (hN:N≤out.size):wpS (model prog w) A E s (rest2 a b out ia ib mg k k1) (Lp blt a b N st) (setG st g):=by
 unfold rest2
 refine wpS_bind (zbc (by omega) ?_)
 have m2:=push_a C T m (by omega) fun _=>hx
 by_cases f1:ia + 1 + 1=a.size
 · rw [if_pos (by simpa using f1)]
   exact wpS_pure ⟨g,rfl,.inr ⟨_,_,rfl,zhv T m2 f1⟩⟩
 · rw [if_neg (by simpa using f1)]
   have at2:At blt a b (out.push (ix a ia)) (ia + 1) ib:=⟨by omega,hb,m2⟩
   split
   · exact wpS_pure ⟨g,rfl,.inl ⟨_,_,_,_,_,_,.inl rfl,at2,by rw [Array.size_push];omega⟩⟩
   · exact wpS_pure ⟨g,rfl,.inl ⟨_,_,_,_,_,_,.inr rfl,at2,by rw [Array.size_push];omega⟩⟩
theorem zmx (C:Cmp prog w A E s kd U blt) (T:Two blt U a b) (hk:kindOf st=kd) {g:Nat} (m:Mg blt (a.toList++b.toList) out.toList (a.toList.drop ia) (b.toList.drop ib)) (ha:ia + 1 < a.size) (hb:ib < b.size) (hy:blt (ix b ib) (ix a ia)=true) (hN:N≤out.size):wpS (model prog w) A E s (rest1 a b out ia ib mg k bc) (Lp blt a b N st) (setG st g):=by
 unfold rest1
 refine wpS_bind (zbc hb ?_)
 have m2:=zvh C T m hb fun _=>hy
 by_cases f1:ib + 1=b.size
 · rw [if_pos (by simpa using f1)]
   exact wpS_pure ⟨g,rfl,.inr ⟨_,_,rfl,zgk m2 (.inl f1)⟩⟩
 · rw [if_neg (by simpa using f1)]
   refine wpS_bind (zbc (by omega) ?_)
   refine wpS_bind (zqg (st:=setG st g) (x:=ix a ia) (i:=ib + 1) (n:=b.size - (ib + 1)) (hint:=0) C hk (T.ua _ (zdx (by omega))) T.ub T.sb (by omega) (by omega) fun k1 q1 q2 q3=>?_)
   dsimp only
   by_cases f2:k1 > 0
   · rw [if_pos f2]
     have m3:=take_b C T m2 (k:=k1) (by omega) q2
     by_cases f3:ib + 1 + k1=b.size
     · rw [if_pos (by simpa using f3)]
       exact wpS_pure ⟨g,rfl,.inr ⟨_,_,rfl,zgk m3 (.inl f3)⟩⟩
     · rw [if_neg (by simpa using f3)]
       exact zmw C T m3 ha (by omega) (q3 k1 (Nat.le_refl _) (by omega)) (by rw [Array.size_append,Array.size_push];omega)
   · rw [if_neg f2]
     have:k1=0:=by omega
     subst this
     exact zmw C T m2 ha (by omega) (q3 0 (Nat.le_refl _) (by omega)) (by rw [Array.size_push];omega)
theorem zqf (C:Cmp prog w A E s kd U blt) (T:Two blt U a b) (hk:kindOf st=kd) {g:Nat} (m:At blt a b out ia ib) (hN:N≤out.size):wpS (model prog w) A E s (leap a b out ia ib mg ac bc) (Lp blt a b N st) (setG st g):=by
 have p1:=m.ha
 have p2:=m.hb
 unfold leap
 refine wpS_bind (zlb ?_)
 refine wpS_bind (zbc p2 ?_)
 refine wpS_bind (zqh (st:=setG st mg) (i:=ia) (n:=a.size - ia) (hint:=0) C hk (T.ub _ (zdx p2)) T.ua T.sa (by omega) (by omega) fun k q1 q2 q3=>?_)
 dsimp only
 by_cases f2:k > 0
 · rw [if_pos f2]
   have m3:=take_a C T m.mg (k:=k) (by omega) q2
   by_cases f3:ia + k + 1=a.size
   · rw [if_pos (by simpa using f3)]
     exact wpS_pure ⟨mg,rfl,.inr ⟨_,_,rfl,zhv T m3 f3⟩⟩
   · rw [if_neg (by simpa using f3)]
     by_cases f4:ia + k=a.size
     · rw [if_pos (by simpa using f4)]
       exact wpS_pure ⟨mg,rfl,.inr ⟨_,_,rfl,zgk m3 (.inr f4)⟩⟩
     · rw [if_neg (by simpa using f4)]
       exact zmx (st:=st) C T hk m3 (by omega) p2 (q3 k (Nat.le_refl _) (by omega)) (by rw [Array.size_append];omega)
 · rw [if_neg f2]
   have:k=0:=by omega
   subst this
   exact zmx (st:=st) C T hk m.mg p1 p2 (q3 0 (Nat.le_refl _) (by omega)) hN
theorem zor (C:Cmp prog w A E s kd U blt) (T:Two blt U a b) (hk:kindOf st=kd) (a0:0 < a.size) (b0:0 < b.size) (hf:blt (ix b 0) (ix a 0)=true) {Q:Array Keyed→SortSt→Prop}
   (h:∀r g,zed blt a b r→Q r (setG st g)):wpS (model prog w) A E s (zlm a b) Q st:=by
 rw [zpc]
 dsimp only
 refine wpS_bind (zfi ?_)
 refine wpS_bind (zbc b0 ?_)
 have m0:Mg blt (a.toList++b.toList) (#[]:Array Keyed).toList (a.toList.drop 0) (b.toList.drop 0):=⟨zlg T.sa,zlg T.sb,List.Perm.refl _⟩
 have m1:=zvh C T m0 b0 fun _=>hf
 have eg:st=setG st (gallopOf st):=rfl
 have h':∀r,zed blt a b r→Q r st:=fun r hr=>by have:=h r (gallopOf st) hr;rw [← eg] at this;exact this
 by_cases e1:1=b.size
 · rw [if_pos (by simpa using e1)]
   exact wpS_pure (h' _ (zgk m1 (.inl e1)))
 · rw [if_neg (by simpa using e1)]
   by_cases e2:0 + 1=a.size
   · rw [if_pos (by simpa using e2)]
     exact wpS_pure (h' _ (zhv T m1 e2))
   · rw [if_neg (by simpa using e2)]
     refine wpS_bind (wpS_get ?_)
     refine wpS_bind (wpS_mono (wpS_forRange
       (I:=fun x c st'=>∃g out ia ib mg,st'=setG st g∧c=(none,out,ia,ib,mg)∧At blt a b out ia ib∧x + 1≤out.size)
       (Q:=fun c st'=>∃g r,st'=setG st g∧c.1=some r∧zed blt a b r) ?_ ?_ ⟨gallopOf st,#[ix b 0],0,1,gallopOf st,rfl,rfl,⟨by omega,by omega,m1⟩,Nat.le_refl _⟩) ?_)
     · rintro x c st' _ hx ⟨g,out,ia,ib,mg,rfl,rfl,at0,sz⟩
       dsimp only
       -- one by one
       refine wpS_bind (wpS_mono (wpS_forRange
         (I:=fun x1 c1 st1=>∃out1 ia1 ib1 ac bc,st1=setG st g∧c1=(none,out1,ia1,ib1,ac,bc)∧At blt a b out1 ia1 ib1∧out.size + x1≤out1.size)
         (Q:=fun c1 st1=>st1=setG st g∧((∃out1 ia1 ib1 ac bc,c1=(none,out1,ia1,ib1,ac,bc)∧At blt a b out1 ia1 ib1∧out.size + 1≤out1.size)∨∃r q,c1=(some r,q)∧zed blt a b r)) ?_ ?_ ⟨out,ia,ib,0,0,rfl,rfl,at0,Nat.le_refl _⟩) ?_)
       · rintro x1 c1 st1 _ hx1 ⟨out1,ia1,ib1,ac,bc,rfl,rfl,at1,sz1⟩
         have p1:=at1.ha
         have p2:=at1.hb
         dsimp only
         refine wpS_bind (zbc p2 ?_)
         refine wpS_bind (zbc (by omega) ?_)
         refine wpS_bind (C.lt _ _ (T.ub _ (zdx p2)) (T.ua _ (zdx (by omega))) _ _ hk ?_)
         dsimp only
         cases hw:blt (ix b ib1) (ix a ia1)
         · simp only [Bool.false_eq_true,if_false]
           refine wpS_bind (zbc (by omega) ?_)
           have m2:=push_a C T at1.mg (by omega) fun _=>hw
           by_cases f1:ia1 + 1 + 1=a.size
           · rw [if_pos (by simpa using f1)]
             exact wpS_pure ⟨rfl,.inr ⟨_,_,rfl,zhv T m2 f1⟩⟩
           · rw [if_neg (by simpa using f1)]
             have at2:At blt a b (out1.push (ix a ia1)) (ia1 + 1) ib1:=⟨by omega,p2,m2⟩
             split
             · exact wpS_pure ⟨rfl,.inl ⟨_,_,_,_,_,rfl,at2,by rw [Array.size_push];omega⟩⟩
             · exact wpS_pure ⟨_,_,_,_,_,rfl,rfl,at2,by rw [Array.size_push];omega⟩
         · simp only [if_true]
           refine wpS_bind (zbc p2 ?_)
           have m2:=zvh C T at1.mg p2 fun _=>hw
           by_cases f1:ib1 + 1=b.size
           · rw [if_pos (by simpa using f1)]
             exact wpS_pure ⟨rfl,.inr ⟨_,_,rfl,zgk m2 (.inl f1)⟩⟩
           · rw [if_neg (by simpa using f1)]
             have at2:At blt a b (out1.push (ix b ib1)) ia1 (ib1 + 1):=⟨p1,by omega,m2⟩
             split
             · exact wpS_pure ⟨rfl,.inl ⟨_,_,_,_,_,rfl,at2,by rw [Array.size_push];omega⟩⟩
             · exact wpS_pure ⟨_,_,_,_,_,rfl,rfl,at2,by rw [Array.size_push];omega⟩
       · rintro c1 st1 ⟨out1,ia1,ib1,ac,bc,rfl,rfl,at1,sz1⟩
         exact ⟨rfl,.inl ⟨_,_,_,_,_,rfl,at1,by omega⟩⟩
       · rintro c1 st1 ⟨rfl,⟨out1,ia1,ib1,ac,bc,rfl,at1,sz1⟩ | ⟨r,q,rfl,gr⟩⟩
         · dsimp only
           refine wpS_bind (zfi ?_)
           -- in leaps
           refine wpS_bind (wpS_mono (wpS_forRange
             (I:=fun x2 c2 st2=>∃g2 out2 ia2 ib2 mg2 ac2 bc2,st2=setG st g2∧c2=(none,out2,ia2,ib2,mg2,ac2,bc2)∧At blt a b out2 ia2 ib2∧out.size + 1≤out2.size)
             (Q:=fun c2 st2=>∃g2,st2=setG st g2∧((∃out2 ia2 ib2 mg2 ac2 bc2,c2=(none,out2,ia2,ib2,mg2,ac2,bc2)∧At blt a b out2 ia2 ib2∧out.size + 1≤out2.size)∨∃r q,c2=(some r,q)∧zed blt a b r)) ?_ ?_ ⟨g,out1,ia1,ib1,mg + 1,ac,bc,rfl,rfl,at1,sz1⟩) ?_)
           · rintro x2 c2 st2 _ hx2 ⟨g2,out2,ia2,ib2,mg2,ac2,bc2,rfl,rfl,at2,sz2⟩
             dsimp only
             show wpS _ _ _ _ (if mg2 > 1 then leap a b out2 ia2 ib2 (mg2 - 1) ac2 bc2 else leap a b out2 ia2 ib2 mg2 ac2 bc2) _ _
             by_cases f0:mg2 > 1
             · rw [if_pos f0]
               refine wpS_mono (zqf (st:=st) (N:=out.size + 1) C T hk at2 sz2) fun r st2 hr=>?_
               rcases hr with ⟨g3,rfl,⟨o,i1,i2,mm,c1,c2,e | e,q1,q2⟩ | ⟨v,q,rfl,gv⟩⟩
               · subst e;exact ⟨g3,rfl,.inl ⟨o,i1,i2,mm,c1,c2,rfl,q1,q2⟩⟩
               · subst e;exact ⟨g3,o,i1,i2,mm,c1,c2,rfl,rfl,q1,q2⟩
               · exact ⟨g3,rfl,.inr ⟨v,q,rfl,gv⟩⟩
             · rw [if_neg f0]
               refine wpS_mono (zqf (st:=st) (N:=out.size + 1) C T hk at2 sz2) fun r st2 hr=>?_
               rcases hr with ⟨g3,rfl,⟨o,i1,i2,mm,c1,c2,e | e,q1,q2⟩ | ⟨v,q,rfl,gv⟩⟩
               · subst e;exact ⟨g3,rfl,.inl ⟨o,i1,i2,mm,c1,c2,rfl,q1,q2⟩⟩
               · subst e;exact ⟨g3,o,i1,i2,mm,c1,c2,rfl,rfl,q1,q2⟩
               · exact ⟨g3,rfl,.inr ⟨v,q,rfl,gv⟩⟩
           · rintro c2 st2 ⟨g2,out2,ia2,ib2,mg2,ac2,bc2,rfl,rfl,at2,sz2⟩
             exact ⟨g2,rfl,.inl ⟨_,_,_,_,_,_,rfl,at2,sz2⟩⟩
           · rintro c2 st2 ⟨g2,rfl,⟨out2,ia2,ib2,mg2,ac2,bc2,rfl,at2,sz2⟩ | ⟨r,q,rfl,gr⟩⟩
             · dsimp only
               refine wpS_bind (zlb ?_)
               exact wpS_pure ⟨mg2 + 1,out2,ia2,ib2,mg2 + 1,rfl,rfl,at2,by omega⟩
             · dsimp only
               exact wpS_pure ⟨g2,r,rfl,rfl,gr⟩
         · dsimp only
           exact wpS_pure ⟨g,r,rfl,rfl,gr⟩
     · rintro c st' ⟨g,out,ia,ib,mg,rfl,rfl,at0,sz⟩
       have:=at0.le
       omega
     · rintro c st' ⟨g,r,rfl,e,gr⟩
       rw [e]
       exact wpS_pure (h r g gr)
end
end Srt
set_option maxHeartbeats 4000000
namespace Srt
open PySem PyProof.Rows
theorem zpd (a b:Array Keyed):zln a b=(do
 rule "list.sort.merge-hi"
 let total:=a.size + b.size
 let done (out:Array Keyed) (na nb:Nat):=a.extract 0 na++b.extract 0 nb++out.reverse
 let firstOfB (out:Array Keyed) (na nb:Nat):=b.extract 0 nb++a.extract 0 na++out.reverse
 let mut na:=a.size - 1
 let mut nb:=b.size
 let mut out:Array Keyed:=#[← elem' a na]
 if na == 0 then return done out na nb
 if nb == 1 then return firstOfB out na nb
 let mut minGallop:=gallopOf (← get)
 for _ in [0:total] do
   let mut acount:=0
   let mut bcount:=0
   for _ in [0:total] do
     let some aWins ← lt' (← elem' b (nb - 1)) (← elem' a (na - 1)) | return done out na nb
     if aWins then
       na:=na - 1;out:=out.push (← elem' a na);acount:=acount + 1;bcount:=0
       if na == 0 then return done out na nb
       if acount ≥ minGallop then break
     else
       nb:=nb - 1;out:=out.push (← elem' b nb);bcount:=bcount + 1;acount:=0
       if nb == 1 then return firstOfB out na nb
       if bcount ≥ minGallop then break
   rule "list.sort.gallop"
   minGallop:=minGallop + 1
   for _ in [0:total] do
     if minGallop > 1 then minGallop:=minGallop - 1
     smg minGallop
     let some at_ ← zcr false (← elem' b (nb - 1)) a 0 na (na - 1) | return done out na nb
     let k:=na - at_
     acount:=k
     if k > 0 then
       out:=out++(a.extract at_ na).reverse;na:=at_
       if na == 0 then return done out na nb
     nb:=nb - 1;out:=out.push (← elem' b nb)
     if nb == 1 then return firstOfB out na nb
     let some at_ ← zcr true (← elem' a (na - 1)) b 0 nb (nb - 1) | return done out na nb
     let k:=nb - at_
     bcount:=k
     if k > 0 then
       out:=out++(b.extract at_ nb).reverse;nb:=at_
       if nb == 1 then return firstOfB out na nb
       if nb == 0 then return done out na nb
     na:=na - 1;out:=out.push (← elem' a na)
     if na == 0 then return done out na nb
     if acount < 7 && bcount < 7 then break
   minGallop:=minGallop + 1
   smg minGallop
 unsupported "internal:list.sort.merge-bound"):=rfl
section
variable {blt:Keyed→Keyed→Bool}{T O A B C:List Keyed}
structure Mh (blt:Keyed→Keyed→Bool) (T O A B:List Keyed):Prop where
 pa:(A++O).Pairwise (le blt)
 pb:(B++O).Pairwise (le blt)
 pm:(A++(B++O)).Perm T
theorem Mh.chunkA (h:Mh blt T O (A++C) B) (hc:∀x∈C,∀z∈B,le blt z x):Mh blt T (C++O) A B:=by
 have h1:=List.pairwise_append.mp h.pa
 have h2:=List.pairwise_append.mp h.pb
 have h3:=List.pairwise_append.mp h1.1
 refine ⟨by rw [← List.append_assoc];exact h.pa,?_,?_⟩
 · refine List.pairwise_append.mpr ⟨h2.1,List.pairwise_append.mpr ⟨h3.2.1,h1.2.1,fun x hx y hy=>h1.2.2 x (List.mem_append_right _ hx) y hy⟩,fun z hz x hx=>?_⟩
   rcases List.mem_append.mp hx with hx | hx
   · exact hc x hx z hz
   · exact h2.2.2 z hz x hx
 · refine List.Perm.trans ?_ h.pm
   rw [List.append_assoc]
   refine List.Perm.append_left A ?_
   rw [← List.append_assoc,← List.append_assoc]
   exact List.Perm.append_right O List.perm_append_comm
theorem Mh.chunkB (h:Mh blt T O A (B++C)) (hc:∀x∈C,∀z∈A,le blt z x):Mh blt T (C++O) A B:=by
 have h1:=List.pairwise_append.mp h.pb
 have h2:=List.pairwise_append.mp h.pa
 have h3:=List.pairwise_append.mp h1.1
 refine ⟨?_,by rw [← List.append_assoc];exact h.pb,?_⟩
 · refine List.pairwise_append.mpr ⟨h2.1,List.pairwise_append.mpr ⟨h3.2.1,h1.2.1,fun x hx y hy=>h1.2.2 x (List.mem_append_right _ hx) y hy⟩,fun z hz x hx=>?_⟩
   rcases List.mem_append.mp hx with hx | hx
   · exact hc x hx z hz
   · exact h2.2.2 z hz x hx
 · have:=h.pm
   rw [List.append_assoc] at this
   exact this
theorem Mh.finA (h:Mh blt T O A []):Good blt T (A++O):=⟨h.pa,h.pm⟩
theorem Mh.finB (h:Mh blt T O [] B):Good blt T (B++O):=⟨h.pb,h.pm⟩
theorem Mh.firstB {x:Keyed} (h:Mh blt T O A [x]) (hx:∀z∈A,le blt x z):Good blt T ([x]++(A++O)):=by
 have h1:=List.pairwise_append.mp h.pb
 refine ⟨List.pairwise_append.mpr ⟨List.pairwise_singleton _ _,h.pa,fun y hy z hz=>?_⟩,List.Perm.trans ?_ h.pm⟩
 · rw [List.mem_singleton.mp hy]
   rcases List.mem_append.mp hz with hz | hz
   · exact hx z hz
   · exact h1.2.2 x (List.mem_singleton.mpr rfl) z hz
 · rw [← List.append_assoc,← List.append_assoc]
   exact List.Perm.append_right O List.perm_append_comm
theorem Mh.len (h:Mh blt T O A B):O.length + A.length + B.length=T.length:=by
 have:=h.pm.length_eq
 simp only [List.length_append] at this
 omega
variable {a b:Array Keyed}{i j k:Nat}
theorem zow (h:i < a.size):a.toList.take (i + 1)=a.toList.take i++[ix a i]:=by
 have e:a.toList[i]? = some (ix a i):=by rw [Array.getElem?_toList];exact zri h
 rw [List.take_add_one,e];rfl
theorem ex_0:(a.extract 0 i).toList=a.toList.take i:=by
 rw [Array.toList_extract,List.extract_eq_drop_take,Nat.sub_zero,List.drop_zero]
theorem zum (h:i≤j) (hj:j≤a.size):a.toList.take j=a.toList.take i++(a.extract i j).toList:=by
 rw [Array.toList_extract,List.extract_eq_drop_take]
 have:a.toList.take j=a.toList.take (i + (j - i)):=by rw [show i + (j - i)=j by omega]
 rw [this,List.take_add]
theorem zht {x:Keyed} (h:x∈a.toList.take i):∃j,j < i∧j < a.size∧x=ix a j:=by
 obtain ⟨j,hj,e⟩:=List.getElem_of_mem h
 rw [List.length_take,Array.length_toList] at hj
 refine ⟨j,by omega,by omega,?_⟩
 rw [List.getElem_take] at e
 rw [← e]
 unfold ix
 rw [Array.getElem?_eq_getElem (by omega)]
 simp
end
section
variable {prog:Program}{w:World}{A:Around}{E:Value→Shared→Prop}{s:Shared}{blt:Keyed→Keyed→Bool}{U:Keyed→Prop}{kd:SortKind}{st:SortSt}{a b:Array Keyed}
structure Ah (blt:Keyed→Keyed→Bool) (a b out:Array Keyed) (na nb:Nat):Prop where
 a0:0 < na
 ha:na≤a.size
 b0:1 < nb
 hb:nb≤b.size
 mg:Mh blt (a.toList++b.toList) out.toList.reverse (a.toList.take na) (b.toList.take nb)
structure TwoH (blt:Keyed→Keyed→Bool) (U:Keyed→Prop) (a b:Array Keyed):Prop where
 sa:Srtd blt a
 sb:Srtd blt b
 ua:∀x∈a.toList,U x
 ub:∀x∈b.toList,U x
 fb:∀z∈a.toList,le blt (ix b 0) z
variable {out:Array Keyed}{na nb k:Nat}
theorem Ah.le (h:Ah blt a b out na nb):out.size + 3≤a.size + b.size:=by
 have:=h.mg.len
 simp only [List.length_take,List.length_append,List.length_reverse,Array.length_toList] at this
 have:=h.a0
 have:=h.ha
 have:=h.b0
 have:=h.hb
 omega
theorem finH (m:Mh blt (a.toList++b.toList) out.toList.reverse (a.toList.take na) (b.toList.take nb)) (hb:nb=0∨na=0):zed blt a b (a.extract 0 na++b.extract 0 nb++out.reverse):=by
 unfold zed
 rw [Array.toList_append,Array.toList_append,ex_0,ex_0,Array.toList_reverse]
 rcases hb with rfl | rfl
 · rw [List.take_zero] at m ⊢
   rw [List.append_nil]
   exact m.finA
 · rw [List.take_zero] at m ⊢
   rw [List.nil_append]
   exact m.finB
theorem firH (T:TwoH blt U a b) (b0:0 < b.size) (m:Mh blt (a.toList++b.toList) out.toList.reverse (a.toList.take na) (b.toList.take nb)) (hb:nb=1):zed blt a b (b.extract 0 nb++a.extract 0 na++out.reverse):=by
 subst hb
 unfold zed
 rw [Array.toList_append,Array.toList_append,ex_0,ex_0,Array.toList_reverse,List.append_assoc]
 have e:b.toList.take 1=[ix b 0]:=by have:=zow b0;rw [List.take_zero] at this;exact this
 rw [e] at m ⊢
 exact m.firstB fun z hz=>T.fb z (List.mem_of_mem_take hz)
theorem zpb (C:Cmp prog w A E s kd U blt) (T:TwoH blt U a b) (m:Mh blt (a.toList++b.toList) out.toList.reverse (a.toList.take (na + 1)) (b.toList.take nb)) (ha:na < a.size) (hb:nb≤b.size) (h:0 < nb→blt (ix b (nb - 1)) (ix a na)=true):Mh blt (a.toList++b.toList) (out.push (ix a na)).toList.reverse (a.toList.take na) (b.toList.take nb):=by
 rw [zow ha] at m
 rw [Array.toList_push,List.reverse_append]
 refine Mh.chunkA (C:=[ix a na]) m fun x hx z hz=>?_
 rw [List.mem_singleton.mp hx]
 obtain ⟨j,j1,j2,rfl⟩:=zht hz
 exact C.tr _ _ _ (T.sb j (nb - 1) (by omega) (by omega)) (C.asy _ _ (h (by omega)))
theorem zvi (C:Cmp prog w A E s kd U blt) (T:TwoH blt U a b) (m:Mh blt (a.toList++b.toList) out.toList.reverse (a.toList.take na) (b.toList.take (nb + 1))) (hb:nb < b.size) (ha:na≤a.size) (h:0 < na→le blt (ix a (na - 1)) (ix b nb)):Mh blt (a.toList++b.toList) (out.push (ix b nb)).toList.reverse (a.toList.take na) (b.toList.take nb):=by
 rw [zow hb] at m
 rw [Array.toList_push,List.reverse_append]
 refine Mh.chunkB (C:=[ix b nb]) m fun x hx z hz=>?_
 rw [List.mem_singleton.mp hx]
 obtain ⟨j,j1,j2,rfl⟩:=zht hz
 exact C.tr _ _ _ (T.sa j (na - 1) (by omega) (by omega)) (h (by omega))
theorem takeH_a (C:Cmp prog w A E s kd U blt) (T:TwoH blt U a b) (m:Mh blt (a.toList++b.toList) out.toList.reverse (a.toList.take na) (b.toList.take nb)) (hk:k≤na) (ha:na≤a.size) (hb:nb≤b.size) (h:∀j,k≤j→j < na→blt (ix b (nb - 1)) (ix a j)=true):Mh blt (a.toList++b.toList) (out++(a.extract k na).reverse).toList.reverse (a.toList.take k) (b.toList.take nb):=by
 rw [zum hk ha] at m
 rw [Array.toList_append,List.reverse_append,Array.toList_reverse,List.reverse_reverse]
 refine Mh.chunkA m fun x hx z hz=>?_
 have hx':x∈(a.extract k (k + (na - k))).toList:=by rw [show k + (na - k)=na by omega];exact hx
 obtain ⟨j,j1,j2,rfl⟩:=zrf hx'
 obtain ⟨l,l1,l2,rfl⟩:=zht hz
 exact C.tr _ _ _ (T.sb l (nb - 1) (by omega) (by omega)) (C.asy _ _ (h (k + j) (by omega) (by omega)))
theorem takeH_b (C:Cmp prog w A E s kd U blt) (T:TwoH blt U a b) (m:Mh blt (a.toList++b.toList) out.toList.reverse (a.toList.take na) (b.toList.take nb)) (hk:k≤nb) (ha:na≤a.size) (hb:nb≤b.size) (h:∀j,k≤j→j < nb→le blt (ix a (na - 1)) (ix b j)):Mh blt (a.toList++b.toList) (out++(b.extract k nb).reverse).toList.reverse (a.toList.take na) (b.toList.take k):=by
 rw [zum hk hb] at m
 rw [Array.toList_append,List.reverse_append,Array.toList_reverse,List.reverse_reverse]
 refine Mh.chunkB m fun x hx z hz=>?_
 have hx':x∈(b.extract k (k + (nb - k))).toList:=by rw [show k + (nb - k)=nb by omega];exact hx
 obtain ⟨j,j1,j2,rfl⟩:=zrf hx'
 obtain ⟨l,l1,l2,rfl⟩:=zht hz
 exact C.tr _ _ _ (T.sa l (na - 1) (by omega) (by omega)) (h (k + j) (by omega) (by omega))
end
end Srt
set_option maxHeartbeats 4000000
namespace Srt
open PySem PyProof.Rows
section
variable {prog:Program}{w:World}{A:Around}{E:Value→Shared→Prop}{s:Shared}{blt:Keyed→Keyed→Bool}{U:Keyed→Prop}{kd:SortKind}{st:SortSt}{a b:Array Keyed}
abbrev Hs:=Option (Array Keyed)×Nat×Nat×Array Keyed×Nat×Nat×Nat
def zqr (a b out:Array Keyed) (na nb mg k k1:Nat):StateT SortSt Sem (ForInStep Hs):=do
 let x ← elem' a (na - 1)
 if (na - 1 == 0)=true then pure (ForInStep.done (some (a.extract 0 (na - 1)++b.extract 0 nb++(out.push x).reverse),na - 1,nb,out.push x,mg,k,k1))
 else if (decide (k < 7) && decide (k1 < 7))=true then pure (ForInStep.done (none,na - 1,nb,out.push x,mg,k,k1)) else pure (ForInStep.yield (none,na - 1,nb,out.push x,mg,k,k1))
def zqs (a b out:Array Keyed) (na nb mg k bc:Nat):StateT SortSt Sem (ForInStep Hs):=do
 let y ← elem' b (nb - 1)
 if (nb - 1 == 1)=true then pure (ForInStep.done (some (b.extract 0 (nb - 1)++a.extract 0 na++(out.push y).reverse),na,nb - 1,out.push y,mg,k,bc))
 else do
   let x ← elem' a (na - 1)
   let r ← zcr true x b 0 (nb - 1) (nb - 1 - 1)
   match r with
   | some t =>
     if nb - 1 - t > 0 then
       if (t == 1)=true then pure (ForInStep.done (some (b.extract 0 t++a.extract 0 na++(out.push y++(b.extract t (nb - 1)).reverse).reverse),na,t,out.push y++(b.extract t (nb - 1)).reverse,mg,k,nb - 1 - t))
       else if (t == 0)=true then pure (ForInStep.done (some (a.extract 0 na++b.extract 0 t++(out.push y++(b.extract t (nb - 1)).reverse).reverse),na,t,out.push y++(b.extract t (nb - 1)).reverse,mg,k,nb - 1 - t))
       else zqr a b (out.push y++(b.extract t (nb - 1)).reverse) na t mg k (nb - 1 - t)
     else zqr a b (out.push y) na (nb - 1) mg k (nb - 1 - t)
   | _=>pure (ForInStep.done (some (a.extract 0 na++b.extract 0 (nb - 1)++(out.push y).reverse),na,nb - 1,out.push y,mg,k,bc))
def leapH (a b out:Array Keyed) (na nb mg ac bc:Nat):StateT SortSt Sem (ForInStep Hs):=do
 smg mg
 let y ← elem' b (nb - 1)
 let r ← zcr false y a 0 na (na - 1)
 match r with
 | some t =>
   if na - t > 0 then
     if (t == 0)=true then pure (ForInStep.done (some (a.extract 0 t++b.extract 0 nb++(out++(a.extract t na).reverse).reverse),t,nb,out++(a.extract t na).reverse,mg,na - t,bc))
     else zqs a b (out++(a.extract t na).reverse) t nb mg (na - t) bc
   else zqs a b out na nb mg (na - t) bc
 | _=>pure (ForInStep.done (some (a.extract 0 na++b.extract 0 nb++out.reverse),na,nb,out,mg,ac,bc))
def LpH (blt:Keyed→Keyed→Bool) (a b:Array Keyed) (N:Nat) (st:SortSt) (r:ForInStep Hs) (st2:SortSt):Prop:=∃g2,st2=setG st g2∧((∃out2 na2 nb2 mg2 ac2 bc2,(r=.done (none,na2,nb2,out2,mg2,ac2,bc2)∨r=.yield (none,na2,nb2,out2,mg2,ac2,bc2))∧Ah blt a b out2 na2 nb2∧N≤out2.size)∨∃v q,r=.done (some v,q)∧zed blt a b v)
variable {out:Array Keyed}{na nb mg k k1 ac bc N:Nat}
theorem zkf (C:Cmp prog w A E s kd U blt) (T:TwoH blt U a b) {g:Nat} (m:Mh blt (a.toList++b.toList) out.toList.reverse (a.toList.take na) (b.toList.take nb)) (a0:0 < na) (ha:na≤a.size) (b0:1 < nb) (hb:nb≤b.size) (hx:blt (ix b (nb - 1)) (ix a (na - 1))=true) (hN:N≤out.size):wpS (model prog w) A E s (zqr a b out na nb mg k k1) (LpH blt a b N st) (setG st g):=by
 obtain ⟨n1,rfl⟩:∃n1,na=n1 + 1:=⟨na - 1,by omega⟩
 unfold zqr
 refine wpS_bind (zbc (by omega) ?_)
 have m2:=zpb C T m (by omega) hb fun _=>hx
 simp only [Nat.add_sub_cancel] at *
 by_cases f1:n1=0
 · rw [if_pos (by simpa using f1)]
   exact wpS_pure ⟨g,rfl,.inr ⟨_,_,rfl,finH m2 (.inr f1)⟩⟩
 · rw [if_neg (by simpa using f1)]
   have at2:Ah blt a b (out.push (ix a n1)) n1 nb:=⟨by omega,by omega,b0,hb,m2⟩
   split
   · exact wpS_pure ⟨g,rfl,.inl ⟨_,_,_,_,_,_,.inl rfl,at2,by rw [Array.size_push];omega⟩⟩
   · exact wpS_pure ⟨g,rfl,.inl ⟨_,_,_,_,_,_,.inr rfl,at2,by rw [Array.size_push];omega⟩⟩
theorem zkg (C:Cmp prog w A E s kd U blt) (T:TwoH blt U a b) (hk:kindOf st=kd) {g:Nat} (m:Mh blt (a.toList++b.toList) out.toList.reverse (a.toList.take na) (b.toList.take nb)) (a0:0 < na) (ha:na≤a.size) (b0:1 < nb) (hb:nb≤b.size) (hy:le blt (ix a (na - 1)) (ix b (nb - 1))) (hN:N≤out.size):wpS (model prog w) A E s (zqs a b out na nb mg k bc) (LpH blt a b N st) (setG st g):=by
 obtain ⟨n1,rfl⟩:∃n1,nb=n1 + 1:=⟨nb - 1,by omega⟩
 unfold zqs
 refine wpS_bind (zbc (by omega) ?_)
 have m2:=zvi C T m (by omega) ha fun _=>hy
 simp only [Nat.add_sub_cancel] at *
 by_cases f1:n1=1
 · rw [if_pos (by simpa using f1)]
   exact wpS_pure ⟨g,rfl,.inr ⟨_,_,rfl,firH T (by omega) m2 f1⟩⟩
 · rw [if_neg (by simpa using f1)]
   refine wpS_bind (zbc (by omega) ?_)
   refine wpS_bind (zqg (st:=setG st g) (x:=ix a (na - 1)) (i:=0) (n:=n1) (hint:=n1 - 1) C hk (T.ua _ (zdx (by omega))) T.ub T.sb (by omega) (by omega) fun t q1 q2 q3=>?_)
   simp only [Nat.zero_add] at q2 q3
   dsimp only
   by_cases f2:n1 - t > 0
   · rw [if_pos f2]
     have m3:=takeH_b C T m2 (k:=t) q1 ha (by omega) q3
     by_cases f3:t=1
     · rw [if_pos (by simpa using f3)]
       exact wpS_pure ⟨g,rfl,.inr ⟨_,_,rfl,firH T (by omega) m3 f3⟩⟩
     · rw [if_neg (by simpa using f3)]
       by_cases f4:t=0
       · rw [if_pos (by simpa using f4)]
         exact wpS_pure ⟨g,rfl,.inr ⟨_,_,rfl,finH m3 (.inl f4)⟩⟩
       · rw [if_neg (by simpa using f4)]
         exact zkf C T m3 a0 ha (by omega) (by omega) (q2 (t - 1) (by omega)) (by rw [Array.size_append,Array.size_push];omega)
   · rw [if_neg f2]
     exact zkf C T m2 a0 ha (by omega) (by omega) (q2 (n1 - 1) (by omega)) (by rw [Array.size_push];omega)
theorem zmy (C:Cmp prog w A E s kd U blt) (T:TwoH blt U a b) (hk:kindOf st=kd) {g:Nat} (m:Ah blt a b out na nb) (hN:N≤out.size):wpS (model prog w) A E s (leapH a b out na nb mg ac bc) (LpH blt a b N st) (setG st g):=by
 have p1:=m.ha
 have p2:=m.hb
 have p3:=m.a0
 have p4:=m.b0
 unfold leapH
 refine wpS_bind (zlb ?_)
 refine wpS_bind (zbc (by omega) ?_)
 refine wpS_bind (zqh (st:=setG st mg) (y:=ix b (nb - 1)) (i:=0) (n:=na) (hint:=na - 1) C hk (T.ub _ (zdx (by omega))) T.ua T.sa (by omega) (by omega) fun t q1 q2 q3=>?_)
 simp only [Nat.zero_add] at q2 q3
 dsimp only
 by_cases f2:na - t > 0
 · rw [if_pos f2]
   have m3:=takeH_a C T m.mg (k:=t) q1 p1 p2 q3
   by_cases f3:t=0
   · rw [if_pos (by simpa using f3)]
     exact wpS_pure ⟨mg,rfl,.inr ⟨_,_,rfl,finH m3 (.inr f3)⟩⟩
   · rw [if_neg (by simpa using f3)]
     exact zkg (st:=st) C T hk m3 (by omega) (by omega) p4 p2 (q2 (t - 1) (by omega)) (by rw [Array.size_append];omega)
 · rw [if_neg f2]
   exact zkg (st:=st) C T hk m.mg p3 p1 p4 p2 (q2 (na - 1) (by omega)) hN
theorem zos (C:Cmp prog w A E s kd U blt) (T:TwoH blt U a b) (hk:kindOf st=kd) (a0:0 < a.size) (b0:0 < b.size) (hl:blt (ix b (b.size - 1)) (ix a (a.size - 1))=true) {Q:Array Keyed→SortSt→Prop}
   (h:∀r g,zed blt a b r→Q r (setG st g)):wpS (model prog w) A E s (zln a b) Q st:=by
 rw [zpd]
 dsimp only
 refine wpS_bind (zfi ?_)
 refine wpS_bind (zbc (by omega) ?_)
 have m0:Mh blt (a.toList++b.toList) (#[]:Array Keyed).toList.reverse (a.toList.take (a.size - 1 + 1)) (b.toList.take b.size):=by
   rw [show a.size - 1 + 1=a.size by omega,List.take_of_length_le (by simp),List.take_of_length_le (by simp)]
   exact ⟨by simpa using zlg T.sa,by simpa using zlg T.sb,by simp⟩
 have m1:=zpb C T m0 (by omega) (Nat.le_refl _) fun _=>hl
 have eg:st=setG st (gallopOf st):=rfl
 have h':∀r,zed blt a b r→Q r st:=fun r hr=>by have:=h r (gallopOf st) hr;rw [← eg] at this;exact this
 by_cases e1:a.size - 1=0
 · rw [if_pos (by simpa using e1)]
   exact wpS_pure (h' _ (finH m1 (.inr e1)))
 · rw [if_neg (by simpa using e1)]
   by_cases e2:b.size=1
   · rw [if_pos (by simpa using e2)]
     exact wpS_pure (h' _ (firH T b0 m1 e2))
   · rw [if_neg (by simpa using e2)]
     refine wpS_bind (wpS_get ?_)
     refine wpS_bind (wpS_mono (wpS_forRange
       (I:=fun x c st'=>∃g out na nb mg,st'=setG st g∧c=(none,na,nb,out,mg)∧Ah blt a b out na nb∧x + 1≤out.size)
       (Q:=fun c st'=>∃g r,st'=setG st g∧c.1=some r∧zed blt a b r) ?_ ?_ ⟨gallopOf st,#[ix a (a.size - 1)],a.size - 1,b.size,gallopOf st,rfl,rfl,⟨by omega,by omega,by omega,Nat.le_refl _,m1⟩,Nat.le_refl _⟩) ?_)
     · rintro x c st' _ hx ⟨g,out,na,nb,mg,rfl,rfl,at0,sz⟩
       dsimp only
       -- one by one
       refine wpS_bind (wpS_mono (wpS_forRange
         (I:=fun x1 c1 st1=>∃out1 na1 nb1 ac bc,st1=setG st g∧c1=(none,na1,nb1,out1,ac,bc)∧Ah blt a b out1 na1 nb1∧out.size + x1≤out1.size)
         (Q:=fun c1 st1=>st1=setG st g∧((∃out1 na1 nb1 ac bc,c1=(none,na1,nb1,out1,ac,bc)∧Ah blt a b out1 na1 nb1∧out.size + 1≤out1.size)∨∃r q,c1=(some r,q)∧zed blt a b r)) ?_ ?_ ⟨out,na,nb,0,0,rfl,rfl,at0,Nat.le_refl _⟩) ?_)
       · rintro x1 c1 st1 _ hx1 ⟨out1,na1,nb1,ac,bc,rfl,rfl,at1,sz1⟩
         have p1:=at1.ha
         have p2:=at1.hb
         have p3:=at1.a0
         have p4:=at1.b0
         have mm:=at1.mg
         obtain ⟨n1,rfl⟩:∃n1,na1=n1 + 1:=⟨na1 - 1,by omega⟩
         obtain ⟨n2,rfl⟩:∃n2,nb1=n2 + 1:=⟨nb1 - 1,by omega⟩
         simp only [Nat.add_sub_cancel]
         refine wpS_bind (zbc (by omega) ?_)
         refine wpS_bind (zbc (by omega) ?_)
         refine wpS_bind (C.lt _ _ (T.ub _ (zdx (by omega))) (T.ua _ (zdx (by omega))) _ _ hk ?_)
         dsimp only
         cases hw:blt (ix b n2) (ix a n1)
         · simp only [Bool.false_eq_true,if_false]
           refine wpS_bind (zbc (by omega) ?_)
           have m2:=zvi C T mm (by omega) p1 fun _=>by rw [Nat.add_sub_cancel];exact hw
           by_cases f1:n2=1
           · rw [if_pos (by simpa using f1)]
             exact wpS_pure ⟨rfl,.inr ⟨_,_,rfl,firH T (by omega) m2 f1⟩⟩
           · rw [if_neg (by simpa using f1)]
             have at2:Ah blt a b (out1.push (ix b n2)) (n1 + 1) n2:=⟨by omega,p1,by omega,by omega,m2⟩
             split
             · exact wpS_pure ⟨rfl,.inl ⟨_,_,_,_,_,rfl,at2,by rw [Array.size_push];omega⟩⟩
             · exact wpS_pure ⟨_,_,_,_,_,rfl,rfl,at2,by rw [Array.size_push];omega⟩
         · simp only [if_true]
           refine wpS_bind (zbc (by omega) ?_)
           have m2:=zpb C T mm (by omega) p2 fun _=>by rw [Nat.add_sub_cancel];exact hw
           by_cases f1:n1=0
           · rw [if_pos (by simpa using f1)]
             exact wpS_pure ⟨rfl,.inr ⟨_,_,rfl,finH m2 (.inr f1)⟩⟩
           · rw [if_neg (by simpa using f1)]
             have at2:Ah blt a b (out1.push (ix a n1)) n1 (n2 + 1):=⟨by omega,by omega,by omega,p2,m2⟩
             split
             · exact wpS_pure ⟨rfl,.inl ⟨_,_,_,_,_,rfl,at2,by rw [Array.size_push];omega⟩⟩
             · exact wpS_pure ⟨_,_,_,_,_,rfl,rfl,at2,by rw [Array.size_push];omega⟩
       · rintro c1 st1 ⟨out1,na1,nb1,ac,bc,rfl,rfl,at1,sz1⟩
         exact ⟨rfl,.inl ⟨_,_,_,_,_,rfl,at1,by omega⟩⟩
       · rintro c1 st1 ⟨rfl,⟨out1,na1,nb1,ac,bc,rfl,at1,sz1⟩ | ⟨r,q,rfl,gr⟩⟩
         · dsimp only
           refine wpS_bind (zfi ?_)
           -- in leaps
           refine wpS_bind (wpS_mono (wpS_forRange
             (I:=fun x2 c2 st2=>∃g2 out2 na2 nb2 mg2 ac2 bc2,st2=setG st g2∧c2=(none,na2,nb2,out2,mg2,ac2,bc2)∧Ah blt a b out2 na2 nb2∧out.size + 1≤out2.size)
             (Q:=fun c2 st2=>∃g2,st2=setG st g2∧((∃out2 na2 nb2 mg2 ac2 bc2,c2=(none,na2,nb2,out2,mg2,ac2,bc2)∧Ah blt a b out2 na2 nb2∧out.size + 1≤out2.size)∨∃r q,c2=(some r,q)∧zed blt a b r)) ?_ ?_ ⟨g,out1,na1,nb1,mg + 1,ac,bc,rfl,rfl,at1,sz1⟩) ?_)
           · rintro x2 c2 st2 _ hx2 ⟨g2,out2,na2,nb2,mg2,ac2,bc2,rfl,rfl,at2,sz2⟩
             dsimp only
             show wpS _ _ _ _ (if mg2 > 1 then leapH a b out2 na2 nb2 (mg2 - 1) ac2 bc2 else leapH a b out2 na2 nb2 mg2 ac2 bc2) _ _
             by_cases f0:mg2 > 1
             · rw [if_pos f0]
               refine wpS_mono (zmy (st:=st) (N:=out.size + 1) C T hk at2 sz2) fun r st2 hr=>?_
               rcases hr with ⟨g3,rfl,⟨o,i1,i2,mm,c1,c2,e | e,q1,q2⟩ | ⟨v,q,rfl,gv⟩⟩
               · subst e;exact ⟨g3,rfl,.inl ⟨o,i1,i2,mm,c1,c2,rfl,q1,q2⟩⟩
               · subst e;exact ⟨g3,o,i1,i2,mm,c1,c2,rfl,rfl,q1,q2⟩
               · exact ⟨g3,rfl,.inr ⟨v,q,rfl,gv⟩⟩
             · rw [if_neg f0]
               refine wpS_mono (zmy (st:=st) (N:=out.size + 1) C T hk at2 sz2) fun r st2 hr=>?_
               rcases hr with ⟨g3,rfl,⟨o,i1,i2,mm,c1,c2,e | e,q1,q2⟩ | ⟨v,q,rfl,gv⟩⟩
               · subst e;exact ⟨g3,rfl,.inl ⟨o,i1,i2,mm,c1,c2,rfl,q1,q2⟩⟩
               · subst e;exact ⟨g3,o,i1,i2,mm,c1,c2,rfl,rfl,q1,q2⟩
               · exact ⟨g3,rfl,.inr ⟨v,q,rfl,gv⟩⟩
           · rintro c2 st2 ⟨g2,out2,na2,nb2,mg2,ac2,bc2,rfl,rfl,at2,sz2⟩
             exact ⟨g2,rfl,.inl ⟨_,_,_,_,_,_,rfl,at2,sz2⟩⟩
           · rintro c2 st2 ⟨g2,rfl,⟨out2,na2,nb2,mg2,ac2,bc2,rfl,at2,sz2⟩ | ⟨r,q,rfl,gr⟩⟩
             · dsimp only
               refine wpS_bind (zlb ?_)
               exact wpS_pure ⟨mg2 + 1,out2,na2,nb2,mg2 + 1,rfl,rfl,at2,by omega⟩
             · dsimp only
               exact wpS_pure ⟨g2,r,rfl,rfl,gr⟩
         · dsimp only
           exact wpS_pure ⟨g,r,rfl,rfl,gr⟩
     · rintro c st' ⟨g,out,na,nb,mg,rfl,rfl,at0,sz⟩
       have:=at0.le
       omega
     · rintro c st' ⟨g,r,rfl,e,gr⟩
       rw [e]
       exact wpS_pure (h r g gr)
end
end Srt
set_option maxHeartbeats 4000000
namespace Srt
open PySem PyProof.Rows
theorem zpe (i:Nat):mergeAt' i=(do
 let s ← get
 let (some (sa,na,power),some (sb,nb,_)):=((pendingOf s)[i]?,(pendingOf s)[i + 1]?) | unsupported "internal:list.sort.pending"
 set (SortSt.mk' (kindOf s) (arrOf s) (((pendingOf s).setIfInBounds i (sa,na + nb,power)).eraseIdxIfInBounds (i + 1)) (gallopOf s) (failedOf s))
 let some k ← zcr false (← elem' (arrOf s) sb) (arrOf s) sa na 0 | return false
 let (sa,na):=(sa + k,na - k)
 if na == 0 then return true
 let some nb ← zcr true (← elem' (arrOf s) (sa + na - 1)) (arrOf s) sb nb (nb - 1) | return false
 if nb == 0 then return true
 let x:=(arrOf s).extract sa sb
 let y:=(arrOf s).extract sb (sb + nb)
 let merged ← if na≤nb then zlm x y else zln x y
 modify fun s=>setArr s (merged.toList.zipIdx.foldl (fun a (p,j)=>a.setIfInBounds (sa + j) p) (arrOf s))
 return (failedOf (← get)).isNone):=rfl
theorem zqv (base:Nat):∀(l:List Keyed) (j:Nat) (arr:Array Keyed),base + j + l.length≤arr.size→((l.zipIdx j).foldl (fun a (p:Keyed×Nat)=>a.setIfInBounds (base + p.2) p.1) arr).toList=arr.toList.take (base + j)++(l++arr.toList.drop (base + j + l.length))
 | [],j,arr,_=>by simp
 | p::l,j,arr,h=>by
   rw [List.length_cons] at h
   rw [List.zipIdx_cons,List.foldl_cons,zqv base l (j + 1) _ (by rw [Array.size_setIfInBounds];omega)]
   rw [Array.toList_setIfInBounds]
   have hl:base + j < arr.toList.length:=by rw [Array.length_toList];omega
   rw [show base + (j + 1)=base + j + 1 by omega,List.take_add_one,List.getElem?_set_self hl,List.take_set_of_le (Nat.le_refl _),List.drop_set_of_lt (by omega)]
   simp only [Option.toList_some,List.append_assoc,List.singleton_append,List.length_cons]
   rw [show base + j + 1 + l.length=base + j + (l.length + 1) by omega]
   rfl
section
variable {blt:Keyed→Keyed→Bool}{pre X Y post:List Keyed}{arr:Array Keyed}{j:Nat}
theorem ix_list (h:arr.toList=pre++(X++post)) (hj:j < X.length):ix arr (pre.length + j)=X[j]:=by
 unfold ix
 rw [← Array.getElem?_toList,h,List.getElem?_append_right (by omega),Nat.add_sub_cancel_left,List.getElem?_append_left hj,List.getElem?_eq_getElem hj]
 rfl
theorem ex_list {l:Nat} (h:arr.toList=pre++(X++post)) (hj:j≤l) (hl:l≤X.length):(arr.extract (pre.length + j) (pre.length + l)).toList=(X.drop j).take (l - j):=by
 rw [Array.toList_extract,List.extract_eq_drop_take,h,← List.drop_drop,List.drop_left,show pre.length + l - (pre.length + j)=l - j by omega,List.drop_append_of_le_length (by omega),List.take_append_of_le_length (by rw [List.length_drop];omega)]
theorem zvf {a:Array Keyed} (irr:∀x,blt x x=false) (h:a.toList.Pairwise (le blt)):Srtd blt a:=by
 intro i j hij hj
 rcases Nat.lt_or_ge i j with q | q
 · rw [List.pairwise_iff_getElem] at h
   have e:∀{i} (h:i < a.toList.length),a.toList[i]=ix a i:=fun {i} h=>by
     rw [Array.length_toList] at h
     unfold ix;rw [Array.getElem?_eq_getElem h];simp
   have:=h i j (by rw [Array.length_toList];omega) (by rw [Array.length_toList];omega) q
   rw [e,e] at this
   exact this
 · rw [show i=j by omega]
   exact irr _
end
section
variable {prog:Program}{w:World}{A:Around}{E:Value→Shared→Prop}{s:Shared}{blt:Keyed→Keyed→Bool}{U:Keyed→Prop}{kd:SortKind}{st:SortSt}{a b:Array Keyed}{pre X Y post:List Keyed}
theorem Cmp.irr (C:Cmp prog w A E s kd U blt) (x:Keyed):blt x x=false:=by
 cases q:blt x x
 · rfl
 · have:=C.asy _ _ q;rw [q] at this;exact this
theorem zua (C:Cmp prog w A E s kd U blt) (hk:kindOf st=kd) {y:Keyed}{i n hint:Nat} (uy:U y) (ua:∀x∈a.toList,U x) (sa:∀j l,j≤l→l < n→le blt (ix a (i + j)) (ix a (i + l))) (hn:i + n≤a.size) (hh:hint < n) {Q:Option Nat→SortSt→Prop}
   (h:∀k,k≤n→(∀j,j < k→le blt (ix a (i + j)) y)→(∀j,k≤j→j < n→blt y (ix a (i + j))=true)→Q (some k) st):wpS (model prog w) A E s (zcr false y a i n hint) Q st:=by
 rw [zfl]
 refine zeg (P:=fun j=>!(blt y (ix a (i + j)))) (fun j hj Q hq=>?_) (fun j l hjl hl hp=>?_) hh fun k k1 k2 k3=>h k k1 (fun j hj=>by have:=k2 j hj;unfold le;simpa using this) (fun j h1 h2=>by have:=k3 j h1 h2;simpa using this)
 · unfold byd
   refine wpS_bind (zbc (by omega) ?_)
   simp only [Bool.false_eq_true,if_false]
   exact wpS_bind (C.lt _ _ uy (ua _ (zdx (by omega))) _ _ hk (wpS_pure hq))
 · have e:blt y (ix a (i + l))=false:=by simpa using hp
   have:=C.tr _ _ _ (sa j l hjl hl) e
   simp [this]
theorem ztz (C:Cmp prog w A E s kd U blt) (hk:kindOf st=kd) {x:Keyed}{i n hint:Nat} (ux:U x) (ub:∀x∈b.toList,U x) (sb:∀j l,j≤l→l < n→le blt (ix b (i + j)) (ix b (i + l))) (hn:i + n≤b.size) (hh:hint < n) {Q:Option Nat→SortSt→Prop}
   (h:∀k,k≤n→(∀j,j < k→blt (ix b (i + j)) x=true)→(∀j,k≤j→j < n→le blt x (ix b (i + j)))→Q (some k) st):wpS (model prog w) A E s (zcr true x b i n hint) Q st:=by
 rw [zfl]
 refine zeg (P:=fun j=>blt (ix b (i + j)) x) (fun j hj Q hq=>?_) (fun j l hjl hl hp=>?_) hh h
 · unfold byd
   refine wpS_bind (zbc (by omega) ?_)
   simp only [if_true]
   exact C.lt _ _ (ub _ (zdx (by omega))) ux _ _ hk hq
 · cases q:blt (ix b (i + j)) x
   · have:=C.tr x (ix b (i + j)) (ix b (i + l)) q (sb j l hjl hl)
     rw [this] at hp;cases hp
   · rfl
theorem zot (C:Cmp prog w A E s kd U blt) {i:Nat}{P:Array (Nat×Nat×Nat)}{p1 p2:Nat} (hk:kindOf st=kd) (hfl:failedOf st=none) (hp:pendingOf st=P) (h1:P[i]? = some (pre.length,X.length,p1)) (h2:P[i + 1]? = some (pre.length + X.length,Y.length,p2))
   (ha:(arrOf st).toList=pre++(X++(Y++post))) (ua:∀x∈(arrOf st).toList,U x) (sx:X.Pairwise (le blt)) (sy:Y.Pairwise (le blt)) (x0:0 < X.length) (y0:0 < Y.length) {Q:Bool→SortSt→Prop}
   (h:∀(Z:List Keyed) (a':Array Keyed) (g:Nat),a'.toList=pre++(Z++post)→Z.Pairwise (le blt)→Z.Perm (X++Y)→Q true (SortSt.mk' kd a' ((P.setIfInBounds i (pre.length,X.length + Y.length,p1)).eraseIdxIfInBounds (i + 1)) g none)):wpS (model prog w) A E s (mergeAt' i) Q st:=by
 have irr:=C.irr
 have haX:(arrOf st).toList=pre++(X++(Y++post)):=ha
 have haY:(arrOf st).toList=(pre++X)++(Y++post):=by rw [List.append_assoc];exact ha
 have lpx:(pre++X).length=pre.length + X.length:=List.length_append
 have asz:(arrOf st).size=pre.length + (X.length + (Y.length + post.length)):=by
   rw [← Array.length_toList,ha];simp only [List.length_append]
 have ixX:∀{j},(hj:j < X.length)→ix (arrOf st) (pre.length + j)=X[j]:=fun {j} hj=>ix_list haX hj
 have ixY:∀{j},(hj:j < Y.length)→ix (arrOf st) (pre.length + X.length + j)=Y[j]:=fun {j} hj=>by rw [← lpx];exact ix_list haY hj
 have pX:∀{j l} (hl:l < X.length) (hj:j≤l),le blt (X[j]'(by omega)) X[l]:=fun {j l} hl hj=>by
   rcases Nat.lt_or_ge j l with q | q
   · exact (List.pairwise_iff_getElem.mp sx) j l (by omega) hl q
   · have:j=l:=by omega
     subst this;exact irr _
 have pY:∀{j l} (hl:l < Y.length) (hj:j≤l),le blt (Y[j]'(by omega)) Y[l]:=fun {j l} hl hj=>by
   rcases Nat.lt_or_ge j l with q | q
   · exact (List.pairwise_iff_getElem.mp sy) j l (by omega) hl q
   · have:j=l:=by omega
     subst this;exact irr _
 have uX:∀x∈X,U x:=fun x hx=>ua x (by rw [ha];simp [hx])
 have uY:∀x∈Y,U x:=fun x hx=>ua x (by rw [ha];simp [hx])
 rw [zpe]
 refine wpS_bind (wpS_get ?_)
 rw [hp,h1,h2]
 dsimp only
 refine wpS_bind (wpS_modify (f:=fun _=>_) ?_)
 refine wpS_bind (zbc (by omega) ?_)
 have e0:=ixY (j:=0) y0
 rw [Nat.add_zero] at e0
 rw [e0]
 refine wpS_bind (zua (a:=arrOf st) (st:=SortSt.mk' (kindOf st) (arrOf st) ((P.setIfInBounds i (pre.length,X.length + Y.length,p1)).eraseIdxIfInBounds (i + 1)) (gallopOf st) (failedOf st)) (y:=Y[0]) (i:=pre.length) (n:=X.length) (hint:=0) C hk (uY _ (List.getElem_mem _)) ua (fun j l hj hl=>by rw [ixX (by omega),ixX hl];exact pX hl hj) (by omega) x0 fun k k1 k2 k3=>?_)
 dsimp only
 rw [hk,hfl]
 by_cases f1:X.length - k=0
 · rw [if_pos (by simpa using f1)]
   refine wpS_pure (h (X++Y) (arrOf st) (gallopOf st) (by rw [ha];simp) ?_ (List.Perm.refl _))
   refine List.pairwise_append.mpr ⟨sx,sy,fun x hx y hy=>?_⟩
   obtain ⟨j,hj,rfl⟩:=List.getElem_of_mem hx
   obtain ⟨l,hl,rfl⟩:=List.getElem_of_mem hy
   have:=k2 j (by omega)
   rw [ixX hj] at this
   exact C.tr _ _ _ this (pY hl (Nat.zero_le _))
 · rw [if_neg (by simpa using f1)]
   have ei:pre.length + k + (X.length - k) - 1=pre.length + (X.length - 1):=by omega
   rw [ei]
   refine wpS_bind (zbc (by omega) ?_)
   rw [ixX (j:=X.length - 1) (by omega)]
   refine wpS_bind (ztz (b:=arrOf st) (st:=SortSt.mk' kd (arrOf st) ((P.setIfInBounds i (pre.length,X.length + Y.length,p1)).eraseIdxIfInBounds (i + 1)) (gallopOf st) none) (x:=X[X.length - 1]) (i:=pre.length + X.length) (n:=Y.length) (hint:=Y.length - 1) C rfl (uX _ (List.getElem_mem _)) ua (fun j l hj hl=>by rw [ixY (by omega),ixY hl];exact pY hl hj) (by omega) (by omega) fun t t1 t2 t3=>?_)
   dsimp only
   by_cases f2:t=0
   · rw [if_pos (by simpa using f2)]
     refine wpS_pure (h (X++Y) (arrOf st) (gallopOf st) (by rw [ha];simp) ?_ (List.Perm.refl _))
     refine List.pairwise_append.mpr ⟨sx,sy,fun x hx y hy=>?_⟩
     obtain ⟨j,hj,rfl⟩:=List.getElem_of_mem hx
     obtain ⟨l,hl,rfl⟩:=List.getElem_of_mem hy
     have:=t3 l (by omega) hl
     rw [ixY hl] at this
     exact C.tr _ _ _ (pX (l:=X.length - 1) (by omega) (by omega)) this
   · rw [if_neg (by simpa using f2)]
     have ex:((arrOf st).extract (pre.length + k) (pre.length + X.length)).toList=X.drop k:=by
       rw [ex_list haX (by omega) (Nat.le_refl _),List.take_of_length_le (by rw [List.length_drop];omega)]
     have ey:((arrOf st).extract (pre.length + X.length) (pre.length + X.length + t)).toList=Y.take t:=by
       have:=ex_list (j:=0) (l:=t) haY (Nat.zero_le _) t1
       rw [lpx,Nat.add_zero,List.drop_zero,Nat.sub_zero] at this
       exact this
     generalize hx:(arrOf st).extract (pre.length + k) (pre.length + X.length)=x at ex
     generalize hy:(arrOf st).extract (pre.length + X.length) (pre.length + X.length + t)=y at ey
     have xs:x.size=X.length - k:=by rw [← Array.length_toList,ex,List.length_drop]
     have ys:y.size=t:=by rw [← Array.length_toList,ey,List.length_take];omega
     have ixx:∀{j},(hj:k + j < X.length)→ix x j=X[k + j]:=fun {j} hj=>by
       unfold ix
       rw [← Array.getElem?_toList,ex,List.getElem?_drop,List.getElem?_eq_getElem hj];rfl
     have ixy:∀{j},(hj:j < t)→ix y j=Y[j]'(by omega):=fun {j} hj=>by
       unfold ix
       rw [← Array.getElem?_toList,ey,List.getElem?_take,if_pos hj,List.getElem?_eq_getElem (by omega)];rfl
     have sX:Srtd blt x:=zvf irr (by rw [ex];exact List.Pairwise.sublist (List.drop_sublist _ _) sx)
     have sY:Srtd blt y:=zvf irr (by rw [ey];exact List.Pairwise.sublist (List.take_sublist _ _) sy)
     have uxx:∀z∈x.toList,U z:=fun z hz=>uX z (List.mem_of_mem_drop (ex ▸ hz))
     have uyy:∀z∈y.toList,U z:=fun z hz=>uY z (List.mem_of_mem_take (ey ▸ hz))
     have hf:blt (ix y 0) (ix x 0)=true:=by
       have:=k3 k (Nat.le_refl _) (by omega)
       rw [ixX (by omega)] at this
       rw [ixy (by omega),ixx (j:=0) (by omega)]
       simpa using this
     have hl:∀j,j < t→blt (ix y j) (ix x (x.size - 1))=true:=fun j hj=>by
       have:=t2 j hj
       rw [ixY (by omega)] at this
       have e:ix x (x.size - 1)=X[X.length - 1]:=by
         rw [ixx (j:=x.size - 1) (by omega)]
         congr 1
         omega
       rw [ixy hj,e];exact this
     -- what is laid back
     have fin:∀(r:Array Keyed) (g:Nat),zed blt x y r→wpS (model prog w) A E s (do
         modify fun s=>setArr s (r.toList.zipIdx.foldl (fun a (p,j)=>a.setIfInBounds (pre.length + k + j) p) (arrOf s))
         return (failedOf (← get)).isNone) Q (SortSt.mk' kd (arrOf st) ((P.setIfInBounds i (pre.length,X.length + Y.length,p1)).eraseIdxIfInBounds (i + 1)) g none):=by
       intro r g gr
       have rl:r.toList.length=X.length - k + t:=by
         rw [gr.2.length_eq,ex,ey,List.length_append,List.length_drop,List.length_take];omega
       refine wpS_bind (wpS_modify ?_)
       refine wpS_bind (wpS_get ?_)
       have pl:=zqv (pre.length + k) r.toList 0 (arrOf st) (by rw [rl];omega)
       rw [Nat.add_zero] at pl
       refine wpS_pure (h (X.take k++(r.toList++Y.drop t)) _ g (Eq.trans pl ?_) ?_ ?_)
       · rw [rl,ha]
         have e1:(pre++(X++(Y++post))).take (pre.length + k)=pre++X.take k:=by
           rw [List.take_append,List.take_of_length_le (by omega),Nat.add_sub_cancel_left,List.take_append_of_le_length k1]
         have e2:(pre++(X++(Y++post))).drop (pre.length + k + (X.length - k + t))=Y.drop t++post:=by
           rw [show pre.length + k + (X.length - k + t)=pre.length + (X.length + t) by omega,← List.drop_drop,List.drop_left,← List.drop_drop,List.drop_left,List.drop_append_of_le_length t1]
         rw [e1,e2]
         simp only [List.append_assoc]
       · have inr:∀z∈r.toList,z∈X.drop k∨z∈Y.take t:=fun z hz=>by
           have:=gr.2.mem_iff.mp hz
           rw [ex,ey] at this
           exact List.mem_append.mp this
         refine List.pairwise_append.mpr ⟨List.Pairwise.sublist (List.take_sublist _ _) sx,List.pairwise_append.mpr ⟨gr.1,List.Pairwise.sublist (List.drop_sublist _ _) sy,fun z hz v hv=>?_⟩,fun z hz v hv=>?_⟩
         · obtain ⟨l,hl',rfl⟩:=List.getElem_of_mem hv
           rw [List.length_drop] at hl'
           rw [List.getElem_drop]
           rcases inr z hz with q | q
           · obtain ⟨j,hj,rfl⟩:=List.getElem_of_mem q
             rw [List.length_drop] at hj
             rw [List.getElem_drop]
             have:=t3 (t + l) (by omega) (by omega)
             rw [ixY (by omega)] at this
             exact C.tr _ _ _ (pX (l:=X.length - 1) (by omega) (by omega)) this
           · obtain ⟨j,hj,rfl⟩:=List.getElem_of_mem q
             rw [List.length_take] at hj
             rw [List.getElem_take]
             exact pY (by omega) (by omega)
         · obtain ⟨j,hj,rfl⟩:=List.getElem_of_mem hz
           rw [List.length_take] at hj
           rw [List.getElem_take]
           have a1:=k2 j (by omega)
           rw [ixX (by omega)] at a1
           have inY:∀v∈Y,le blt X[j] v:=fun v hv=>by
             obtain ⟨l,hl',rfl⟩:=List.getElem_of_mem hv
             exact C.tr _ _ _ a1 (pY hl' (Nat.zero_le _))
           rcases List.mem_append.mp hv with hv | hv
           · rcases inr v hv with q | q
             · obtain ⟨l,hl',rfl⟩:=List.getElem_of_mem q
               rw [List.length_drop] at hl'
               rw [List.getElem_drop]
               exact pX (by omega) (by omega)
             · exact inY v (List.mem_of_mem_take q)
           · exact inY v (List.mem_of_mem_drop hv)
       · have g2:=gr.2
         rw [ex,ey] at g2
         refine List.Perm.trans (List.Perm.append_left _ (List.Perm.append_right _ g2)) ?_
         rw [List.append_assoc,List.take_append_drop,← List.append_assoc,List.take_append_drop]
     by_cases f3:X.length - k≤t
     · rw [if_pos f3]
       refine wpS_bind (zor (st:=SortSt.mk' kd (arrOf st) ((P.setIfInBounds i (pre.length,X.length + Y.length,p1)).eraseIdxIfInBounds (i + 1)) (gallopOf st) none) C ⟨sX,sY,uxx,uyy,fun z hz=>?_⟩ rfl (by omega) (by omega) hf fun r g gr=>fin r g gr)
       obtain ⟨j,hj,j2,rfl⟩:=zfj (i:=0) (by rw [List.drop_zero];exact hz)
       exact C.asy _ _ (hl j (by omega))
     · rw [if_neg f3]
       refine wpS_bind (zos (st:=SortSt.mk' kd (arrOf st) ((P.setIfInBounds i (pre.length,X.length + Y.length,p1)).eraseIdxIfInBounds (i + 1)) (gallopOf st) none) C ⟨sX,sY,uxx,uyy,fun z hz=>?_⟩ rfl (by omega) (by omega) (by rw [ys];exact hl (t - 1) (by omega)) fun r g gr=>fin r g gr)
       obtain ⟨j,hj,j2,rfl⟩:=zfj (i:=0) (by rw [List.drop_zero];exact hz)
       exact C.tr _ _ _ (C.asy _ _ hf) (sX 0 j hj j2)
end
end Srt
set_option maxHeartbeats 4000000
namespace Srt
open PySem PyProof.Rows
section
variable {prog:Program}{w:World}{A:Around}{E:Value→Shared→Prop}{s:Shared}{blt:Keyed→Keyed→Bool}{U:Keyed→Prop}{kd:SortKind}{st:SortSt}{arr:Array Keyed}
def Asc (blt:Keyed→Keyed→Bool) (a:Array Keyed) (lo hi:Nat):Prop:=∀i j,lo≤i→i < j→j < hi→blt (ix a i) (ix a j)=true
def Des (blt:Keyed→Keyed→Bool) (a:Array Keyed) (lo hi:Nat):Prop:=∀i j,lo≤i→i < j→j < hi→blt (ix a j) (ix a i)=true
def Dis (blt:Keyed→Keyed→Bool) (a:Array Keyed):Prop:=∀i j,i≠j→i < a.size→j < a.size→blt (ix a i) (ix a j)=false→blt (ix a j) (ix a i)=true
theorem Cmp.ltr (C:Cmp prog w A E s kd U blt) {x y z:Keyed} (h1:blt x y=true) (h2:blt y z=true):blt x z=true:=by
 cases q:blt x z
 · have:=C.tr y z x (C.asy _ _ h2) q
   rw [this] at h1;cases h1
 · rfl
theorem zeq (C:Cmp prog w A E s kd U blt) (hk:kindOf st=kd) (ua:∀x∈(arrOf st).toList,U x) {i j:Nat} (hi:i < (arrOf st).size) (hj:j < (arrOf st).size) {Q:Option Bool→SortSt→Prop} (h:Q (some (blt (ix (arrOf st) i) (ix (arrOf st) j))) st):wpS (model prog w) A E s (ltAt' i j) Q st:=by
 rw [ltAt'_eq]
 refine wpS_bind (wpS_get ?_)
 refine wpS_bind (zbc hi (wpS_bind (zbc hj ?_)))
 exact C.lt _ _ (ua _ (zdx hi)) (ua _ (zdx hj)) _ _ hk h
theorem Asc.snoc (C:Cmp prog w A E s kd U blt) {a:Array Keyed}{lo n:Nat} (h:Asc blt a lo (lo + n)) (n1:1≤n) (hl:blt (ix a (lo + n - 1)) (ix a (lo + n))=true):Asc blt a lo (lo + (n + 1)):=fun i j hi hij hj=>by
 rcases Nat.lt_or_ge j (lo + n) with q | q
 · exact h i j hi hij q
 · have:j=lo + n:=by omega
   subst this
   rcases Nat.lt_or_ge i (lo + n - 1) with q2 | q2
   · exact C.ltr (h i (lo + n - 1) hi q2 (by omega)) hl
   · have:i=lo + n - 1:=by omega
     subst this;exact hl
theorem Des.snoc (C:Cmp prog w A E s kd U blt) {a:Array Keyed}{lo n:Nat} (h:Des blt a lo (lo + n)) (n1:1≤n) (hl:blt (ix a (lo + n)) (ix a (lo + n - 1))=true):Des blt a lo (lo + (n + 1)):=fun i j hi hij hj=>by
 rcases Nat.lt_or_ge j (lo + n) with q | q
 · exact h i j hi hij q
 · have:j=lo + n:=by omega
   subst this
   rcases Nat.lt_or_ge i (lo + n - 1) with q2 | q2
   · exact C.ltr hl (h i (lo + n - 1) hi q2 (by omega))
   · have:i=lo + n - 1:=by omega
     subst this;exact hl
theorem zir {a:Array Keyed}{i j:Nat} (hj:j≤a.size) (k:Nat):ix (mirror a i j ((j - i) / 2)) k=if i≤k∧k < j then ix a (i + j - 1 - k) else ix a k:=by
 have e:=getElem?_mirror_all (i:=i) hj k
 unfold ix
 rw [e]
 split <;> rfl
theorem zis {a:Array Keyed}{src d:Nat} (hs:src < a.size) (hd:d≤src) (k:Nat):ix (bubble a src d) k=if k=src - d then ix a src else if src - d < k∧k≤src then ix a (k - 1) else ix a k:=by
 have e:=getElem?_bubble hs d hd k
 unfold ix
 rw [e]
 split
 · rfl
 · split <;> rfl
structure Sam (lo:Nat) (a a':Array Keyed):Prop where
 pm:a'.toList.Perm a.toList
 ne:∀i,i < lo→ix a' i=ix a i
theorem Sam.size {lo:Nat}{a a':Array Keyed} (h:Sam lo a a'):a'.size=a.size:=by have:=h.pm.length_eq;rw [Array.length_toList,Array.length_toList] at this;exact this
theorem Sam.refl (lo:Nat) (a:Array Keyed):Sam lo a a:=⟨List.Perm.refl _,fun _ _=>rfl⟩
theorem Sam.trans {lo:Nat}{a b c:Array Keyed} (h:Sam lo a b) (h':Sam lo b c):Sam lo a c:=⟨h'.pm.trans h.pm,fun i hi=>(h'.ne i hi).trans (h.ne i hi)⟩
theorem zsr {lo:Nat}{a:Array Keyed}{j:Nat} (hj:j≤a.size):Sam lo a (mirror a lo j ((j - lo) / 2)) :=
 ⟨(mirror_perm a lo j ((j - lo) / 2)).toList,fun i hi=>by rw [zir hj,if_neg (by omega)]⟩
theorem zss {lo:Nat}{a:Array Keyed}{src d:Nat} (hs:src < a.size) (hd:d≤src) (hl:lo≤src - d):Sam lo a (bubble a src d) :=
 ⟨(bubble_perm a src d).toList,fun i hi=>by rw [zis hs hd,if_neg (by omega),if_neg (by omega)]⟩
theorem Asc.mir {a:Array Keyed}{lo n:Nat} (h:Des blt a lo (lo + n)) (hn:lo + n≤a.size):Asc blt (mirror a lo (lo + n) ((lo + n - lo) / 2)) lo (lo + n):=fun i j hi hij hj=>by
 rw [zir hn,zir hn,if_pos (by omega),if_pos (by omega)]
 exact h _ _ (by omega) (by omega) (by omega)
theorem Dis.of {lo:Nat}{a a':Array Keyed} (d:a.toList.Pairwise fun x y=>blt x y=true∨blt y x=true) (h:Sam lo a a'):a'.toList.Pairwise fun x y=>blt x y=true∨blt y x=true :=
 (h.pm.pairwise_iff (fun {x y} q=>q.symm)).mpr d
theorem zry {a:Array Keyed} (d:a.toList.Pairwise fun x y=>blt x y=true∨blt y x=true):Dis blt a:=by
 have e:∀{i} (h:i < a.toList.length),a.toList[i]=ix a i:=fun {i} h=>by
   rw [Array.length_toList] at h
   unfold ix;rw [Array.getElem?_eq_getElem h];simp
 intro i j hij hi hj hf
 rw [List.pairwise_iff_getElem] at d
 rcases Nat.lt_or_ge i j with q | q
 · have:=d i j (by rw [Array.length_toList];exact hi) (by rw [Array.length_toList];exact hj) q
   rw [e,e] at this
   rcases this with z | z
   · rw [z] at hf;cases hf
   · exact z
 · have:=d j i (by rw [Array.length_toList];exact hj) (by rw [Array.length_toList];exact hi) (by omega)
   rw [e,e] at this
   rcases this with z | z
   · exact z
   · rw [z] at hf;cases hf
theorem zub (C:Cmp prog w A E s kd U blt) (hk:kindOf st=kd) (ua:∀x∈(arrOf st).toList,U x) (hd:Dis blt (arrOf st)) {lo n0 nrem:Nat} (hs:lo + nrem=(arrOf st).size) (n1:1≤n0) (n2:n0≤nrem) (h0:Asc blt (arrOf st) lo (lo + n0)) {Q:Option (Option Nat)×Nat→SortSt→Prop}
   (h:∀n,n0≤n→n≤nrem→Asc blt (arrOf st) lo (lo + n)→(n=nrem∨blt (ix (arrOf st) (lo + n)) (ix (arrOf st) (lo + n - 1))=true)→Q (none,n) st) :
   wpS (model prog w) A E s (forIn [n0:nrem] ((none,n0):Option (Option Nat)×Nat) fun _ __s=>do
     let __x ← ltAt' (lo + __s.snd) (lo + __s.snd - 1)
     match __x with
     | some smaller=>if smaller=true then pure (ForInStep.done (none,__s.snd)) else pure (ForInStep.yield (none,__s.snd + 1))
     | _=>pure (ForInStep.done (some none,__s.snd))) Q st:=by
 refine wpS_forRange (I:=fun x c st'=>st'=st∧c=(none,x)∧Asc blt (arrOf st) lo (lo + x)) ?_ ?_ ⟨rfl,rfl,h0⟩
 · rintro x c st' hx1 hx ⟨rfl,rfl,ac⟩
   dsimp only
   refine wpS_bind (zeq C hk ua (by omega) (by omega) ?_)
   dsimp only
   cases q:blt (ix (arrOf st') (lo + x)) (ix (arrOf st') (lo + x - 1))
   · simp only [Bool.false_eq_true,if_false]
     exact wpS_pure ⟨rfl,rfl,ac.snoc C (by omega) (hd _ _ (by omega) (by omega) (by omega) q)⟩
   · simp only [if_true]
     exact wpS_pure (h x hx1 (by omega) ac (.inr q))
 · rintro c st' ⟨rfl,rfl,ac⟩
   have e:max n0 nrem=nrem:=by omega
   rw [e] at ac ⊢
   exact h nrem n2 (Nat.le_refl _) ac (.inl rfl)
theorem zlc (C:Cmp prog w A E s kd U blt) (hk:kindOf st=kd) (ua:∀x∈(arrOf st).toList,U x) (hd:(arrOf st).toList.Pairwise fun x y=>blt x y=true∨blt y x=true) {lo nrem:Nat} (hs:lo + nrem=(arrOf st).size) (n0:1≤nrem) {Q:Option Nat→SortSt→Prop}
   (h:∀n a',1≤n→n≤nrem→Sam lo (arrOf st) a'→Asc blt a' lo (lo + n)→Q (some n) (setArr st a')):wpS (model prog w) A E s (countRun' lo nrem) Q st:=by
 have es:st=setArr st (arrOf st):=rfl
 rw [countRun'_eq]
 refine wpS_bind (wpS_mono (zub (n0:=1) C hk ua (zry hd) hs (Nat.le_refl _) n0 (fun i j a b c=>by omega) (Q:=fun c st'=>st'=st∧∃n,c=(none,n)∧1≤n∧n≤nrem∧Asc blt (arrOf st) lo (lo + n)∧(n=nrem∨blt (ix (arrOf st) (lo + n)) (ix (arrOf st) (lo + n - 1))=true)) fun n a1 a2 a3 a4=>⟨rfl,n,rfl,a1,a2,a3,a4⟩) ?_)
 rintro c st' ⟨rfl,n,rfl,a1,a2,a3,a4⟩
 dsimp only
 by_cases e1:n=nrem
 · rw [if_pos (by simpa using e1)]
   have:=h n (arrOf st') a1 a2 (Sam.refl _ _) a3
   rw [← es] at this
   exact wpS_pure this
 · rw [if_neg (by simpa using e1)]
   have a4:=a4.resolve_left e1
   by_cases e2:n > 1
   · rw [if_pos e2]
     refine wpS_bind (zeq C hk ua (by omega) (by omega) ?_)
     dsimp only
     rw [a3 lo (lo + n - 1) (Nat.le_refl _) (by omega) (by omega)]
     simp only [if_true]
     have:=h n (arrOf st') a1 a2 (Sam.refl _ _) a3
     rw [← es] at this
     exact wpS_pure this
   · rw [if_neg e2]
     have:n=1:=by omega
     subst this
     refine wpS_bind (zfi ?_)
     refine wpS_bind (wpS_mono (wpS_forRange (I:=fun x c st2=>st2=st'∧c=(none,x,0)∧Des blt (arrOf st') lo (lo + x)) (Q:=fun c st2=>st2=st'∧∃n,c=(none,n,0)∧2≤n∧n≤nrem∧Des blt (arrOf st') lo (lo + n)) ?_ ?_ ⟨rfl,rfl,fun i j p1 p2 p3=>?_⟩) ?_)
     · rintro x c st2 hx1 hx ⟨rfl,rfl,de⟩
       dsimp only
       refine wpS_bind (zeq C hk ua (by omega) (by omega) ?_)
       dsimp only
       cases q:blt (ix (arrOf st2) (lo + x)) (ix (arrOf st2) (lo + x - 1))
       · simp only [Bool.false_eq_true,if_false]
         refine wpS_bind (zeq C hk ua (by omega) (by omega) ?_)
         dsimp only
         rw [zry hd _ _ (by omega) (by omega) (by omega) q]
         simp only [if_true]
         exact wpS_pure ⟨rfl,x,rfl,by omega,by omega,de⟩
       · simp only [if_true]
         rw [if_neg (by decide)]
         exact wpS_pure ⟨rfl,rfl,de.snoc C (by omega) q⟩
     · rintro c st2 ⟨rfl,rfl,de⟩
       have e:max (1 + 1) nrem=nrem:=by omega
       rw [e] at de ⊢
       exact ⟨rfl,nrem,rfl,by omega,Nat.le_refl _,de⟩
     · have:i=lo:=by omega
       subst this
       have:j=i + 1:=by omega
       subst this
       simpa using a4
     · rintro c st2 ⟨rfl,n,rfl,n2,n3,de⟩
       dsimp only
       rw [if_neg (by decide)]
       rw [reverseSlice'_eq]
       refine wpS_bind (wpS_modify ?_)
       have sm:=zsr (lo:=lo) (a:=arrOf st2) (j:=lo + n) (by omega)
       have am:=Asc.mir de (by omega)
       generalize hm:mirror (arrOf st2) lo (lo + n) ((lo + n - lo) / 2)=a2 at sm am
       have z2:=sm.size
       refine wpS_bind (wpS_mono (zub (st:=setArr st2 a2) (n0:=n) C hk (fun x hx=>ua x (sm.pm.mem_iff.mp hx)) (zry (Dis.of hd sm)) (by show lo + nrem=a2.size;omega) (by omega) n3 am (Q:=fun c st'=>st'=setArr st2 a2∧∃m,c=(none,m)∧n≤m∧m≤nrem∧Asc blt a2 lo (lo + m)) fun m b1 b2 b3 b4=>⟨rfl,m,rfl,b1,b2,b3⟩) ?_)
       rintro c st3 ⟨rfl,m,rfl,b1,b2,b3⟩
       exact wpS_pure (h m a2 (by omega) b2 sm b3)
theorem zhz (C:Cmp prog w A E s kd U blt) (hk:kindOf st=kd) (ua:∀x∈(arrOf st).toList,U x) (hd:(arrOf st).toList.Pairwise fun x y=>blt x y=true∨blt y x=true) {lo n ok:Nat} (hs:lo + n≤(arrOf st).size) (o1:1≤ok) (o2:ok≤n) (h0:Asc blt (arrOf st) lo (lo + ok)) {Q:Bool→SortSt→Prop}
   (h:∀a',Sam lo (arrOf st) a'→Asc blt a' lo (lo + n)→Q true (setArr st a')):wpS (model prog w) A E s (binarySort' lo n ok) Q st:=by
 rw [binarySort'_eq]
 have em:max ok 1=ok:=by omega
 rw [em]
 refine wpS_bind (wpS_mono (wpS_forRange (I:=fun x c st2=>c.1=none∧∃a',st2=setArr st a'∧Sam lo (arrOf st) a'∧Asc blt a' lo (lo + x)) (Q:=fun c st2=>c.1=none∧∃a',st2=setArr st a'∧Sam lo (arrOf st) a'∧Asc blt a' lo (lo + n)) ?_ ?_ ⟨rfl,arrOf st,rfl,Sam.refl _ _,h0⟩) ?_)
 · rintro x c st2 hx1 hx ⟨hc,a',rfl,sm,ac⟩
   have za:=sm.size
   have ua':∀y∈(arrOf (setArr st a')).toList,U y:=fun y hy=>ua y (sm.pm.mem_iff.mp hy)
   have di:Dis blt a':=zry (Dis.of hd sm)
   dsimp only
   refine wpS_bind (wpS_mono (wpS_forRange (I:=fun y c st3=>st3=setArr st a'∧∃l r,c=(none,l,r)∧l≤r∧r≤x∧(∀i,i < l→blt (ix a' (lo + i)) (ix a' (lo + x))=true)∧(∀i,r≤i→i < x→blt (ix a' (lo + x)) (ix a' (lo + i))=true)∧r - l + y≤x)
     (Q:=fun c st3=>st3=setArr st a'∧∃l,c=(none,l,l)∧l≤x∧(∀i,i < l→blt (ix a' (lo + i)) (ix a' (lo + x))=true)∧(∀i,l≤i→i < x→blt (ix a' (lo + x)) (ix a' (lo + i))=true)) ?_ ?_ ⟨rfl,0,x,rfl,by omega,Nat.le_refl _,fun i hi=>by omega,fun i h1 h2=>by omega,by omega⟩) ?_)
   · rintro y c st3 _ hy ⟨rfl,l,r,rfl,g1,g2,g3,g4,g5⟩
     dsimp only
     by_cases e:l ≥ r
     · rw [if_pos e]
       have:l=r:=by omega
       subst this
       exact wpS_pure ⟨rfl,l,rfl,g2,g3,g4⟩
     · rw [if_neg e]
       refine wpS_bind (zeq (st:=setArr st a') C hk ua' (by show lo + x < a'.size;omega) (by show lo + (l + r) / 2 < a'.size;omega) ?_)
       dsimp only
       show wpS _ _ _ _ (if blt (ix a' (lo + x)) (ix a' (lo + (l + r) / 2))=true then _ else _) _ _
       cases q:blt (ix a' (lo + x)) (ix a' (lo + (l + r) / 2))
       · simp only [Bool.false_eq_true,if_false]
         have q':=di _ _ (by omega) (by omega) (by omega) q
         refine wpS_pure ⟨rfl,(l + r) / 2 + 1,r,rfl,by omega,g2,fun i hi=>?_,g4,by omega⟩
         rcases Nat.lt_or_ge i ((l + r) / 2) with z | z
         · exact C.ltr (ac (lo + i) (lo + (l + r) / 2) (by omega) (by omega) (by omega)) q'
         · rw [show i=(l + r) / 2 by omega];exact q'
       · simp only [if_true]
         refine wpS_pure ⟨rfl,l,(l + r) / 2,rfl,by omega,by omega,g3,fun i h1 h2=>?_,by omega⟩
         rcases Nat.lt_or_ge ((l + r) / 2) i with z | z
         · exact C.ltr q (ac (lo + (l + r) / 2) (lo + i) (by omega) (by omega) (by omega))
         · rw [show i=(l + r) / 2 by omega];exact q
   · rintro c st3 ⟨rfl,l,r,rfl,g1,g2,g3,g4,g5⟩
     have:l=r:=by omega
     subst this
     exact ⟨rfl,l,rfl,g2,g3,g4⟩
   · rintro c st3 ⟨rfl,l,rfl,g2,g3,g4⟩
     dsimp only
     rw [moveDown'_eq]
     refine wpS_bind (wpS_modify ?_)
     have hb1:lo + x < a'.size:=by omega
     refine wpS_pure ⟨rfl,bubble a' (lo + x) (lo + x - (lo + l)),rfl,sm.trans (zss hb1 (by omega) (by omega)),fun i j hi hij hj=>?_⟩
     rw [zis hb1 (by omega),zis hb1 (by omega)]
     by_cases i1:i=lo + x - (lo + x - (lo + l))
     · rw [if_pos i1,if_neg (by omega),if_pos (by omega)]
       have:=g4 (j - 1 - lo) (by omega) (by omega)
       rw [show lo + (j - 1 - lo)=j - 1 by omega] at this
       exact this
     · rw [if_neg i1]
       by_cases j1:j=lo + x - (lo + x - (lo + l))
       · rw [if_pos j1,if_neg (by omega)]
         have:=g3 (i - lo) (by omega)
         rw [show lo + (i - lo)=i by omega] at this
         exact this
       · rw [if_neg j1]
         by_cases i2:lo + x - (lo + x - (lo + l)) < i∧i≤lo + x
         · rw [if_pos i2,if_pos (by omega)]
           exact ac _ _ (by omega) (by omega) (by omega)
         · rw [if_neg i2]
           by_cases j2:lo + x - (lo + x - (lo + l)) < j∧j≤lo + x
           · rw [if_pos j2]
             exact ac _ _ (by omega) (by omega) (by omega)
           · rw [if_neg j2]
             exact ac _ _ (by omega) (by omega) (by omega)
 · rintro c st2 ⟨hc,a',rfl,sm,ac⟩
   rw [show max ok n=n by omega] at ac
   exact ⟨hc,a',rfl,sm,ac⟩
 · rintro c st2 ⟨hc,a',rfl,sm,ac⟩
   dsimp only
   rw [hc]
   exact wpS_pure (h a' sm ac)
end
end Srt
set_option maxHeartbeats 4000000
namespace Srt
open PySem PyProof.Rows
def Pm:List (Nat×Nat×Nat)→List (List Keyed)→Nat→Prop
 | [],[],_=>True
 | (s,n,_)::p,r::rs,f=>s=f∧n=r.length∧Pm p rs (f + r.length)
 | _,_,_=>False
theorem Pm.len:∀{p:List (Nat×Nat×Nat)}{rs:List (List Keyed)}{f:Nat},Pm p rs f→p.length=rs.length
 | [],[],_,_=>rfl
 | (s,n,q)::p,r::rs,f,h=>by rw [List.length_cons,List.length_cons,Pm.len h.2.2]
 | [],_::_,_,h=>h.elim
 | _::_,[],_,h=>h.elim
theorem Pm.app:∀{p p':List (Nat×Nat×Nat)}{rs rs':List (List Keyed)}{f:Nat},Pm p rs f→Pm p' rs' (f + rs.flatten.length)→Pm (p++p') (rs++rs') f
 | [],p',[],rs',f,_,h=>by simpa using h
 | (s,n,q)::p,p',r::rs,rs',f,h,h'=>⟨h.1,h.2.1,Pm.app h.2.2 (by rw [List.flatten_cons,List.length_append] at h';rw [Nat.add_assoc];exact h')⟩
 | [],_,_::_,_,_,h,_=>h.elim
 | _::_,_,[],_,_,h,_=>h.elim
theorem Pm.split:∀{p:List (Nat×Nat×Nat)}{rs:List (List Keyed)}{f i:Nat},Pm p rs f→i + 1 < p.length→∃Q1 Q2 R1 R2 X Y p1 p2,p=Q1++(f + R1.flatten.length,X.length,p1)::(f + R1.flatten.length + X.length,Y.length,p2)::Q2∧rs=R1++X::Y::R2∧Q1.length=i∧Pm Q1 R1 f∧Pm Q2 R2 (f + R1.flatten.length + X.length + Y.length)
 | (s,n,q)::(s',n',q')::p,r::r'::rs,f,0,h,_=>by
   obtain ⟨rfl,rfl,rfl,rfl,h3⟩:=h
   exact ⟨[],p,[],rs,r,r',q,q',by simp,rfl,rfl,trivial,by simpa using h3⟩
 | (s,n,q)::p,r::rs,f,i + 1,h,hl=>by
   obtain ⟨rfl,rfl,h3⟩:=h
   obtain ⟨Q1,Q2,R1,R2,X,Y,p1,p2,e1,e2,e3,e4,e5⟩:=Pm.split (i:=i) h3 (by simpa using hl)
   refine ⟨(s,r.length,q)::Q1,Q2,r::R1,R2,X,Y,p1,p2,?_,by rw [e2];rfl,by simp [e3],⟨rfl,rfl,e4⟩,?_⟩
   · rw [e1,List.flatten_cons,List.length_append,← Nat.add_assoc];rfl
   · rw [List.flatten_cons,List.length_append,← Nat.add_assoc];exact e5
 | [],_,_,_,_,hl=>by simp at hl
 | [_],_,_,0,_,hl=>by simp at hl
 | _::_::_,[_],_,0,h,_=>by obtain ⟨_,_,h⟩:=h;exact h.elim
 | _::_::_,[],_,0,h,_=>h.elim
 | _::_,[],_,_ + 1,h,_=>h.elim
theorem Pm.pow (pw:Nat):∀{p:List (Nat×Nat×Nat)}{rs:List (List Keyed)}{f k:Nat},Pm p rs f→Pm (p.modify k fun x=>(x.1,x.2.1,pw)) rs f
 | [],[],_,_,_=>by simp [Pm]
 | (s,n,q)::p,r::rs,f,0,h=>h
 | (s,n,q)::p,r::rs,f,k + 1,h=>⟨h.1,h.2.1,Pm.pow pw h.2.2⟩
 | [],_::_,_,_,h=>h.elim
 | _::_,[],_,_,h=>h.elim
section
variable {prog:Program}{w:World}{A:Around}{E:Value→Shared→Prop}{s:Shared}{blt:Keyed→Keyed→Bool}{U:Keyed→Prop}{kd:SortKind}{st:SortSt}{T:List Keyed}
structure RI (blt:Keyed→Keyed→Bool) (kd:SortKind) (T:List Keyed) (st:SortSt) (lo:Nat) (rest:List Keyed):Prop where
 k:kindOf st=kd
 f:failedOf st=none
 pm:(arrOf st).toList.Perm T
 ex:∃rs:List (List Keyed),(arrOf st).toList=rs.flatten++rest∧Pm (pendingOf st).toList rs 0∧lo=rs.flatten.length∧∀r∈rs,r.Pairwise (le blt)∧0 < r.length
theorem zgv (C:Cmp prog w A E s kd U blt) (uT:∀x∈T,U x) {lo i:Nat}{rest:List Keyed} (R:RI blt kd T st lo rest) (hi:i + 1 < (pendingOf st).size):wpS (model prog w) A E s (mergeAt' i) (fun b st'=>b=true∧RI blt kd T st' lo rest∧(pendingOf st').size + 1=(pendingOf st).size) st:=by
 obtain ⟨rs,ea,ep,el,er⟩:=R.ex
 obtain ⟨Q1,Q2,R1,R2,X,Y,p1,p2,e1,e2,e3,e4,e5⟩:=ep.split (i:=i) (by rw [Array.length_toList];exact hi)
 rw [Nat.zero_add] at e1 e5
 have gX:=er X (by rw [e2];simp)
 have gY:=er Y (by rw [e2];simp)
 have a1:(pendingOf st)[i]? = some (R1.flatten.length,X.length,p1):=by
   rw [← Array.getElem?_toList,e1,← e3,List.getElem?_append_right (Nat.le_refl _),Nat.sub_self];rfl
 have a2:(pendingOf st)[i + 1]? = some (R1.flatten.length + X.length,Y.length,p2):=by
   rw [← Array.getElem?_toList,e1,← e3,List.getElem?_append_right (by omega),Nat.add_sub_cancel_left];rfl
 refine zot (pre:=R1.flatten) (X:=X) (Y:=Y) (post:=R2.flatten++rest) C R.k R.f rfl a1 a2 (by rw [ea,e2];simp [List.append_assoc]) (fun x hx=>uT x (R.pm.mem_iff.mp hx)) gX.1 gY.1 gX.2 gY.2 fun Z a' g ez pz mz=>?_
 have pl:(((pendingOf st).setIfInBounds i (R1.flatten.length,X.length + Y.length,p1)).eraseIdxIfInBounds (i + 1)).toList=Q1++(R1.flatten.length,X.length + Y.length,p1)::Q2:=by
   have l1:i + 1 < ((pendingOf st).setIfInBounds i (R1.flatten.length,X.length + Y.length,p1)).size:=by rw [Array.size_setIfInBounds];exact hi
   rw [Array.eraseIdxIfInBounds,dif_pos l1,Array.toList_eraseIdx,Array.toList_setIfInBounds,e1,← e3]
   rw [List.set_append_right _ _ (Nat.le_refl _),Nat.sub_self,List.set_cons_zero,List.eraseIdx_append_of_length_le (by omega),Nat.add_sub_cancel_left]
   rfl
 have zl:Z.length=X.length + Y.length:=by rw [mz.length_eq,List.length_append]
 refine ⟨rfl,⟨rfl,rfl,?_,R1++Z::R2,?_,?_,?_,fun r hr=>?_⟩,?_⟩
 · refine List.Perm.trans ?_ R.pm
   show a'.toList.Perm _
   rw [ez,ea,e2]
   simp only [List.flatten_append,List.flatten_cons,List.append_assoc]
   refine List.Perm.append_left _ ?_
   rw [← List.append_assoc X]
   exact List.Perm.append_right _ mz
 · show a'.toList=_
   rw [ez];simp [List.append_assoc]
 · show Pm (((pendingOf st).setIfInBounds i (R1.flatten.length,X.length + Y.length,p1)).eraseIdxIfInBounds (i + 1)).toList _ 0
   rw [pl]
   exact Pm.app e4 ⟨by rw [Nat.zero_add],zl.symm,by rw [Nat.zero_add,zl,← Nat.add_assoc];exact e5⟩
 · rw [el,e2]
   simp only [List.flatten_append,List.flatten_cons,List.length_append,zl]
   omega
 · rcases List.mem_append.mp hr with q | q
   · exact er r (by rw [e2];exact List.mem_append_left _ q)
   · rcases List.mem_cons.mp q with rfl | q
     · exact ⟨pz,by omega⟩
     · exact er r (by rw [e2];simp [q])
 · show (((pendingOf st).setIfInBounds i (R1.flatten.length,X.length + Y.length,p1)).eraseIdxIfInBounds (i + 1)).size + 1=_
   rw [← Array.length_toList,pl,← Array.length_toList,e1]
   simp only [List.length_append,List.length_cons]
   omega
end
end Srt
set_option maxHeartbeats 4000000
namespace Srt
open PySem PyProof.Rows
section
variable {prog:Program}{w:World}{A:Around}{E:Value→Shared→Prop}{s:Shared}{blt:Keyed→Keyed→Bool}{U:Keyed→Prop}{kd:SortKind}{st:SortSt}{T:List Keyed}
theorem asc_pw (C:Cmp prog w A E s kd U blt) {a:Array Keyed}{lo n:Nat} (h:Asc blt a lo (lo + n)) (hn:lo + n≤a.size):((a.toList.drop lo).take n).Pairwise (le blt):=by
 have e:∀{i} (h:i < a.toList.length),a.toList[i]=ix a i:=fun {i} h=>by
   rw [Array.length_toList] at h
   unfold ix;rw [Array.getElem?_eq_getElem h];simp
 rw [List.pairwise_iff_getElem]
 intro i j hi hj hij
 rw [List.length_take,List.length_drop,Array.length_toList] at hi hj
 rw [List.getElem_take,List.getElem_take,List.getElem_drop,List.getElem_drop,e,e]
 exact C.asy _ _ (h _ _ (by omega) (by omega) (by omega))
theorem zso {a a':Array Keyed}{lo:Nat} (h:Sam lo a a') (hl:lo≤a.size):a'.toList.take lo=a.toList.take lo:=by
 have hs:=h.size
 apply List.ext_getElem?
 intro i
 rw [List.getElem?_take,List.getElem?_take]
 split
 · rename_i hi
   rw [Array.getElem?_toList,Array.getElem?_toList,zri (by omega),zri (by omega),h.ne i hi]
 · rfl
theorem RI.sam {lo:Nat}{rest:List Keyed}{a':Array Keyed} (R:RI blt kd T st lo rest) (h:Sam lo (arrOf st) a'):RI blt kd T (setArr st a') lo (a'.toList.drop lo):=by
 obtain ⟨rs,ea,ep,el,er⟩:=R.ex
 have hl:lo≤(arrOf st).size:=by rw [← Array.length_toList,ea,List.length_append,el];omega
 refine ⟨R.k,R.f,h.pm.trans R.pm,rs,?_,ep,el,er⟩
 have e1:a'.toList.take lo=rs.flatten:=by rw [zso h hl,ea,el,List.take_left]
 show a'.toList=_
 rw [← e1,List.take_append_drop]
theorem RI.push {lo n:Nat}{a':Array Keyed} (R:RI blt kd T st lo ((arrOf st).toList.drop lo)) (hs:lo + n≤(arrOf st).size) (n0:0 < n) (hp:(((arrOf st).toList.drop lo).take n).Pairwise (le blt)):RI blt kd T (setPending st ((pendingOf st).push (lo,n,0))) (lo + n) ((arrOf st).toList.drop (lo + n)):=by
 obtain ⟨rs,ea,ep,el,er⟩:=R.ex
 have ln:(((arrOf st).toList.drop lo).take n).length=n:=by rw [List.length_take,List.length_drop,Array.length_toList];omega
 refine ⟨R.k,R.f,R.pm,rs++[((arrOf st).toList.drop lo).take n],?_,?_,?_,fun r hr=>?_⟩
 · show (arrOf st).toList=_
   rw [List.flatten_append,List.flatten_singleton,List.append_assoc,← List.drop_drop,List.take_append_drop]
   exact ea
 · show Pm ((pendingOf st).push (lo,n,0)).toList _ 0
   rw [Array.toList_push]
   exact Pm.app ep ⟨by rw [Nat.zero_add];exact el,ln.symm,trivial⟩
 · rw [List.flatten_append,List.flatten_singleton,List.length_append,ln,← el]
 · rcases List.mem_append.mp hr with q | q
   · exact er r q
   · rw [List.mem_singleton.mp q];exact ⟨hp,by omega⟩
theorem RI.pow {lo k pw:Nat}{rest:List Keyed} (R:RI blt kd T st lo rest):RI blt kd T (setPending st ((pendingOf st).modify k fun (x:Nat×Nat×Nat)=>(x.1,x.2.1,pw))) lo rest:=by
 obtain ⟨rs,ea,ep,el,er⟩:=R.ex
 refine ⟨R.k,R.f,R.pm,rs,ea,?_,el,er⟩
 show Pm ((pendingOf st).modify k _).toList rs 0
 rw [Array.toList_modify]
 exact Pm.pow pw ep
theorem RI.small {lo:Nat}{rest:List Keyed} (R:RI blt kd T st lo rest):(pendingOf st).size≤lo:=by
 obtain ⟨rs,ea,ep,el,er⟩:=R.ex
 rw [← Array.length_toList,ep.len,el]
 clear ea ep el
 induction rs with
 | nil=>simp
 | cons r rs ih =>
   have:=ih fun x hx=>er x (List.mem_cons_of_mem _ hx)
   have:=(er r (List.mem_cons_self ..)).2
   rw [List.length_cons,List.flatten_cons,List.length_append]
   omega
theorem RI.fin (R:RI blt kd T st T.length []) (hp:(pendingOf st).size≤1):(arrOf st).toList.Pairwise (le blt):=by
 obtain ⟨rs,ea,ep,el,er⟩:=R.ex
 rw [← Array.length_toList,ep.len] at hp
 rw [ea,List.append_nil]
 match rs,hp,er with
 | [],_,_=>exact List.Pairwise.nil
 | [r],_,er=>rw [List.flatten_singleton];exact (er r (List.mem_cons_self ..)).1
theorem RI.rest {lo:Nat}{rest:List Keyed} (R:RI blt kd T st lo rest):(arrOf st).toList.drop lo=rest:=by
 obtain ⟨rs,ea,ep,el,er⟩:=R.ex
 rw [ea,el,List.drop_left]
theorem zla (C:Cmp prog w A E s kd U blt) (hk:kindOf st=kd) (hf:failedOf st=none) (hp:pendingOf st=#[]) (uT:∀x∈(arrOf st).toList,U x) (hd:(arrOf st).toList.Pairwise fun x y=>blt x y=true∨blt y x=true) {Q:Unit→SortSt→Prop}
   (h:∀st',(arrOf st').toList.Perm (arrOf st).toList→failedOf st'=none→(arrOf st').toList.Pairwise (le blt)→Q () st'):wpS (model prog w) A E s sortRuns' Q st:=by
 have tl:(arrOf st).toList.length=(arrOf st).size:=Array.length_toList
 rw [sortRuns'_eq]
 refine wpS_bind (wpS_get ?_)
 dsimp only
 generalize hT:(arrOf st).toList=T at *
 generalize hz:(arrOf st).size=sz at *
 generalize minRun' sz sz 0=mr
 have R0:RI blt kd T st 0 ((arrOf st).toList.drop 0):=⟨hk,hf,by rw [hT],[],by rw [List.drop_zero];rfl,by rw [hp];trivial,rfl,fun r hr=>by cases hr⟩
 refine wpS_bind (wpS_mono (wpS_forRange
   (I:=fun x c st'=>∃lo,c=(none,lo)∧lo≤sz∧(x≤lo∨lo=sz)∧RI blt kd T st' lo ((arrOf st').toList.drop lo))
   (Q:=fun c st'=>c=(none,sz)∧RI blt kd T st' sz ((arrOf st').toList.drop sz)) ?step ?fin ⟨0,rfl,by omega,.inl (Nat.le_refl _),R0⟩) ?post)
 case fin =>
   rintro c st' ⟨lo,rfl,l1,l2,R⟩
   have:lo=sz:=by omega
   subst this
   exact ⟨rfl,R⟩
 case step =>
   rintro x c st' _ hx ⟨lo,rfl,l1,l2,R⟩
   dsimp only
   by_cases e0:lo ≥ sz
   · rw [if_pos e0]
     have:lo=sz:=by omega
     subst this
     exact wpS_pure ⟨rfl,R⟩
   · rw [if_neg e0]
     have zs:(arrOf st').size=sz:=by rw [← tl,← Array.length_toList];exact R.pm.length_eq
     have u':∀x∈(arrOf st').toList,U x:=fun x hx=>uT x (R.pm.mem_iff.mp hx)
     have d':(arrOf st').toList.Pairwise fun x y=>blt x y=true∨blt y x=true:=(R.pm.pairwise_iff (fun {x y} q=>q.symm)).mpr hd
     refine wpS_bind (zlc C R.k u' d' (by omega) (by omega) fun n a1 n1 n2 sm ac=>?_)
     dsimp only
     have za:=sm.size
     have R1:=R.sam sm
     by_cases e1:n < mr
     · rw [if_pos e1]
       refine wpS_bind (zfi ?_)
       refine wpS_bind (zhz (st:=setArr st' a1) (n:=min (sz - lo) mr) (ok:=n) C R.k (fun x hx=>u' x (sm.pm.mem_iff.mp hx)) (Dis.of d' sm) (by show lo + min (sz - lo) mr≤a1.size;omega) n1 (by omega) ac fun a2 s2 c2=>?_)
       simp only [Bool.not_true,Bool.false_eq_true,if_false]
       have m0:0 < min (sz - lo) mr:=by omega
       have m1:lo + min (sz - lo) mr≤sz:=by omega
       have RR:=R.sam (sm.trans s2)
       have hp:=asc_pw C c2 (show lo + min (sz - lo) mr≤a2.size from by have:=(sm.trans s2).size;omega)
       have last:∀{st2:SortSt},RI blt kd T st2 lo (a2.toList.drop lo)→RI blt kd T (setPending st2 ((pendingOf st2).push (lo,min (sz - lo) mr,0))) (lo + min (sz - lo) mr) ((arrOf (setPending st2 ((pendingOf st2).push (lo,min (sz - lo) mr,0)))).toList.drop (lo + min (sz - lo) mr)):=fun {st2} R2=>by
         have e:=R2.rest
         have z2:(arrOf st2).size=sz:=by rw [← tl,← Array.length_toList];exact R2.pm.length_eq
         have R3:RI blt kd T st2 lo ((arrOf st2).toList.drop lo):=by rw [e];exact R2
         exact R3.push (a':=#[]) (by omega) (by omega) (by rw [e];exact hp)
       refine wpS_bind (wpS_get ?_)
       split
       · rename_i s1 n1 q heq
         refine wpS_bind (wpS_mono (wpS_forRange (I:=fun x c st2=>c.1=none∧RI blt kd T st2 lo (a2.toList.drop lo)) (Q:=fun c st2=>c.1=none∧RI blt kd T st2 lo (a2.toList.drop lo)) ?_ (fun c st2 hh=>hh) ⟨rfl,RR⟩) ?_)
         · rintro x c st2 _ _ ⟨_,R2⟩
           refine wpS_bind (wpS_get ?_)
           by_cases g:(pendingOf st2).size > 1
           · rw [if_pos g]
             have gi:(pendingOf st2).size - 2 < (pendingOf st2).size:=by omega
             rw [Array.getElem?_eq_getElem gi]
             dsimp only
             split
             · exact wpS_pure ⟨rfl,R2⟩
             · refine wpS_bind (wpS_mono (zgv C uT R2 (by omega)) fun b st3 hb=>?_)
               obtain ⟨rfl,R3,_⟩:=hb
               simp only [Bool.not_true,Bool.false_eq_true,if_false]
               exact wpS_pure ⟨rfl,R3⟩
           · rw [if_neg g]
             exact wpS_pure ⟨rfl,R2⟩
         · rintro c st2 ⟨hc,R2⟩
           rw [hc]
           dsimp only
           refine wpS_bind (wpS_modify ?_)
           refine wpS_bind (wpS_modify ?_)
           exact wpS_pure ⟨_,rfl,by omega,by omega,last (st2:=setPending st2 ((pendingOf st2).modify ((pendingOf st2).size - 1) fun x=>(x.fst,x.2.fst,power' sz (2 * s1 + n1) (2 * s1 + n1 + n1 + min (sz - lo) mr) sz))) R2.pow⟩
       · refine wpS_bind (wpS_modify ?_)
         exact wpS_pure ⟨_,rfl,by omega,by omega,last RR⟩
     · rw [if_neg e1]
       have RR:=R.sam sm
       have hp:=asc_pw C ac (show lo + n≤a1.size from by have:=sm.size;omega)
       have last:∀{st2:SortSt},RI blt kd T st2 lo (a1.toList.drop lo)→RI blt kd T (setPending st2 ((pendingOf st2).push (lo,n,0))) (lo + n) ((arrOf (setPending st2 ((pendingOf st2).push (lo,n,0)))).toList.drop (lo + n)):=fun {st2} R2=>by
         have e:=R2.rest
         have z2:(arrOf st2).size=sz:=by rw [← tl,← Array.length_toList];exact R2.pm.length_eq
         have R3:RI blt kd T st2 lo ((arrOf st2).toList.drop lo):=by rw [e];exact R2
         exact R3.push (a':=#[]) (by omega) (by omega) (by rw [e];exact hp)
       refine wpS_bind (wpS_get ?_)
       split
       · rename_i s1 n1 q heq
         refine wpS_bind (wpS_mono (wpS_forRange (I:=fun x c st2=>c.1=none∧RI blt kd T st2 lo (a1.toList.drop lo)) (Q:=fun c st2=>c.1=none∧RI blt kd T st2 lo (a1.toList.drop lo)) ?_ (fun c st2 hh=>hh) ⟨rfl,RR⟩) ?_)
         · rintro x c st2 _ _ ⟨_,R2⟩
           refine wpS_bind (wpS_get ?_)
           by_cases g:(pendingOf st2).size > 1
           · rw [if_pos g]
             have gi:(pendingOf st2).size - 2 < (pendingOf st2).size:=by omega
             rw [Array.getElem?_eq_getElem gi]
             dsimp only
             split
             · exact wpS_pure ⟨rfl,R2⟩
             · refine wpS_bind (wpS_mono (zgv C uT R2 (by omega)) fun b st3 hb=>?_)
               obtain ⟨rfl,R3,_⟩:=hb
               simp only [Bool.not_true,Bool.false_eq_true,if_false]
               exact wpS_pure ⟨rfl,R3⟩
           · rw [if_neg g]
             exact wpS_pure ⟨rfl,R2⟩
         · rintro c st2 ⟨hc,R2⟩
           rw [hc]
           dsimp only
           refine wpS_bind (wpS_modify ?_)
           refine wpS_bind (wpS_modify ?_)
           exact wpS_pure ⟨_,rfl,by omega,by omega,last (st2:=setPending st2 ((pendingOf st2).modify ((pendingOf st2).size - 1) fun x=>(x.fst,x.2.fst,power' sz (2 * s1 + n1) (2 * s1 + n1 + n1 + n) sz))) R2.pow⟩
       · refine wpS_bind (wpS_modify ?_)
         exact wpS_pure ⟨_,rfl,by omega,by omega,last RR⟩
 case post =>
   rintro c st' ⟨rfl,R⟩
   dsimp only
   have e:(arrOf st').toList.drop sz=[]:=List.drop_of_length_le (by rw [R.pm.length_eq,tl];exact Nat.le_refl _)
   rw [e] at R
   have sm:=R.small
   refine wpS_bind (wpS_mono (wpS_forRange (I:=fun x c st2=>c.1=none∧RI blt kd T st2 sz []∧((pendingOf st2).size + x≤sz + 1∨(pendingOf st2).size≤1)) (Q:=fun c st2=>c.1=none∧RI blt kd T st2 sz []∧(pendingOf st2).size≤1) ?_ ?_ ⟨rfl,R,.inl (by omega)⟩) ?_)
   · rintro x c st2 _ hx ⟨_,R2,p2⟩
     refine wpS_bind (wpS_get ?_)
     by_cases g:(pendingOf st2).size≤1
     · rw [if_pos g]
       exact wpS_pure ⟨rfl,R2,g⟩
     · rw [if_neg g]
       refine wpS_bind (wpS_mono (zgv C uT R2 ?_) fun b st3 hb=>?_)
       · have any:∀(q:Bool),(if q=true then (pendingOf st2).size - 2 - 1 else (pendingOf st2).size - 2) + 1 < (pendingOf st2).size:=fun q=>by cases q <;> simp <;> omega
         exact any _
       · obtain ⟨rfl,R3,z3⟩:=hb
         simp only [Bool.not_true,Bool.false_eq_true,if_false]
         exact wpS_pure ⟨rfl,R3,by omega⟩
   · rintro c st2 ⟨hc,R2,p2⟩
     refine ⟨hc,R2,?_⟩
     rcases p2 with p2 | p2
     · have:max 0 sz=sz:=by omega
       omega
     · exact p2
   · rintro c st2 ⟨hc,R2,p2⟩
     have R3:RI blt kd T st2 T.length []:=by rw [tl];exact R2
     have:=h st2 R2.pm R2.f (R3.fin p2)
     rw [hc]
     exact wpS_pure this
end
end Srt
set_option maxHeartbeats 4000000
namespace Srt
open PySem PyProof.Rows
def nums (z:Str):List Int:=z.cps.toList.map Int.ofNat
theorem map_lt:∀(x y:List Nat),(x.map Int.ofNat < y.map Int.ofNat) ↔ x < y
 | [],[]=>by simp
 | [],_::_=>by simp
 | _::_,[]=>by simp
 | a::x,b::y=>by
   rw [List.map_cons,List.map_cons,List.cons_lt_cons_iff,List.cons_lt_cons_iff,map_lt x y]
   constructor
   · rintro (h | ⟨h,h'⟩)
     · exact .inl (Int.ofNat_lt.mp h)
     · exact .inr ⟨Int.ofNat.inj h,h'⟩
   · rintro (h | ⟨h,h'⟩)
     · exact .inl (Int.ofNat_lt.mpr h)
     · exact .inr ⟨congrArg Int.ofNat h,h'⟩
def bk (kc:Keyed→List Int) (x y:Keyed):Bool:=decide (kc x < kc y)
section
variable {prog:Program}{w:World}{A:Around}{E:Value→Shared→Prop}{s:Shared}{kd:SortKind}{U:Keyed→Prop}{kc:Keyed→List Int}
theorem zsa (h:∀x y,U x→U y→∀(E':Value→Shared→Prop) (Q:Bool→Shared→Prop),Q (bk kc x y) s→wpAny (model prog w) A (keyLt' kd x.1 y.1) Q E' s):Cmp prog w A E s kd U (bk kc) where
 lt:=fun x y hx hy st Q hk hq=>by
   rw [lt'_eq]
   refine wpS_bind (wpS_get ?_)
   rw [hk]
   refine wpS_bind (wpS_lift (wpAny_attempt ?_))
   refine h x y hx hy _ _ ?_
   exact ⟨rfl,wpS_pure hq⟩
 asy:=fun x y hx=>by
   simp only [bk,decide_eq_true_eq,decide_eq_false_iff_not] at *
   exact List.lt_asymm hx
 tr:=fun x y z h1 h2=>by
   simp only [bk,decide_eq_false_iff_not] at *
   exact List.not_lt.mpr (List.le_trans (List.not_lt.mp h1) (List.not_lt.mp h2))
theorem ztc {a b:Int}{t u:Tok}{Q:Bool→Shared→Prop} (h:Q (decide (a < b)) s):wpAny (model prog w) A (oneLt' false (.int a t) (.int b u)) Q E s:=by
 rw [oneLt'_eq]
 simp only [Bool.false_eq_true,if_false]
 refine wpAny_bind (wpAny_richCompare_same (op:=.Lt) (typeIs_int s a t) (typeIs_int s b u) slot_int_lt (call_int_lt ⟨by simp,?_⟩))
 exact wpAny_truthy_bool h
theorem ztb {a b:Str}{t u:Tok}{Q:Bool→Shared→Prop} (h:Q (decide (a.cps.toList < b.cps.toList)) s):wpAny (model prog w) A (oneLt' false (.str a t) (.str b u)) Q E s:=by
 rw [oneLt'_eq]
 simp only [Bool.false_eq_true,if_false]
 refine wpAny_bind (wpAny_richCompare_same (op:=.Lt) (typeIs_str s a t) (typeIs_str s b u) slot_str_lt (call_str_lt ⟨by simp,?_⟩))
 exact wpAny_truthy_bool h
theorem cmp_int (hU:∀x,U x→∃n t,x.1=.int n t∧kc x=[n]):Cmp prog w A E s oneType' U (bk kc):=zsa fun x y hx hy E' Q hq=>by
 obtain ⟨n,t,e,k⟩:=hU x hx
 obtain ⟨m,u,e',k'⟩:=hU y hy
 rw [e,e',keyLt'_oneType]
 refine oneLt_int ?_
 have:bk kc x y=decide (n < m):=by
   unfold bk;rw [k,k',decide_eq_decide,List.cons_lt_cons_iff];simp
 rw [← this];exact hq
theorem cmp_str (hU:∀x,U x→∃z t,x.1=.str z t∧kc x=nums z):Cmp prog w A E s oneType' U (bk kc):=zsa fun x y hx hy E' Q hq=>by
 obtain ⟨n,t,e,k⟩:=hU x hx
 obtain ⟨m,u,e',k'⟩:=hU y hy
 rw [e,e',keyLt'_oneType]
 refine oneLt_str ?_
 have:bk kc x y=decide (n.cps.toList < m.cps.toList):=by
   unfold bk;rw [k,k',decide_eq_decide];exact map_lt _ _
 rw [← this];exact hq
theorem zth (fl:Bool) (x y:Value):keyLt' (tuples' fl) x y=(do
   let xs ← Builtin.List.listItems x;let ys ← Builtin.List.listItems y
   for ((p,q),i) in (xs.toList.zip ys.toList).zipIdx do
     if !(← eqBool p q) then return ← oneLt' (fl && i == 0) p q
   return xs.size < ys.size):=rfl
theorem zkl {p q:Addr}{o o':Obj}{n n':Nat}{a b:Int}{t u:Tok}{v v':Value}{Q:Bool→Shared→Prop} (ho:s.heap.get? p=some o) (hd:o.data=.seq #[.int a t,v] n) (ho':s.heap.get? q=some o') (hd':o'.data=.seq #[.int b u,v'] n')
   {eq lt:Bool} (he:∀Q:Bool→Shared→Prop,Q eq s→wpAny (model prog w) A (eqBool v v') Q E s) (hl:∀Q:Bool→Shared→Prop,Q lt s→wpAny (model prog w) A (oneLt' false v v') Q E s) (h:Q (if a=b then !eq && lt else decide (a < b)) s):wpAny (model prog w) A (keyLt' (tuples' true) (.ref p) (.ref q)) Q E s:=by
 rw [zth]
 refine wpAny_bind (listItems_at ho hd ?_)
 refine wpAny_bind (listItems_at ho' hd' ?_)
 have e0:((#[Value.int a t,v].toList.zip #[Value.int b u,v'].toList).zipIdx)=[((Value.int a t,Value.int b u),0),((v,v'),1)]:=rfl
 rw [e0,List.forIn_cons]
 simp only [bind_assoc]
 refine wpAny_bind (wpAny_eqBool_int ?_)
 by_cases ab:a=b
 · rw [if_pos ab] at h
   have e1:(a == b)=true:=by simpa using ab
   rw [e1]
   simp only [Bool.not_true,Bool.false_eq_true,if_false,pure_bind]
   rw [List.forIn_cons]
   simp only [bind_assoc]
   refine wpAny_bind (he _ ?_)
   cases eq
   · simp only [Bool.not_false,if_true,bind_assoc,pure_bind,Bool.true_and] at h ⊢
     exact wpAny_bind (hl _ (wpAny_pure h))
   · simp only [Bool.not_true,Bool.false_eq_true,if_false,pure_bind,List.forIn_nil,Bool.false_and] at h ⊢
     exact wpAny_pure h
 · rw [if_neg ab] at h
   have e1:(a == b)=false:=by simpa using ab
   rw [e1]
   simp only [Bool.not_false,if_true,bind_assoc,pure_bind]
   exact wpAny_bind (oneLt_int (wpAny_pure h))
theorem cmp_ii (hU:∀x,U x→∃p o n a t b u,x.1=.ref p∧s.heap.get? p=some o∧o.data=.seq #[.int a t,.int b u] n∧kc x=[a,b]):Cmp prog w A E s (tuples' true) U (bk kc):=zsa fun x y hx hy E' Q hq=>by
 obtain ⟨p,o,n,a,t,b,u,e,ho,hd,k⟩:=hU x hx
 obtain ⟨p',o',n',a',t',b',u',e',ho',hd',k'⟩:=hU y hy
 rw [e,e']
 refine zkl ho hd ho' hd' (eq:=b == b') (lt:=decide (b < b')) (fun Q h=>wpAny_eqBool_int h) (fun Q h=>ztc h) ?_
 have:bk kc x y=(if a=a' then !(b == b') && decide (b < b') else decide (a < a')):=by
   unfold bk;rw [k,k',← Bool.decide_coe (if a=a' then _ else _),decide_eq_decide,List.cons_lt_cons_iff,List.cons_lt_cons_iff]
   by_cases h1:a=a'
   · rw [if_pos h1];subst h1;simp;omega
   · rw [if_neg h1];simp [h1]
 rw [← this];exact hq
theorem cmp_is (hU:∀x,U x→∃p o n a t b u,x.1=.ref p∧s.heap.get? p=some o∧o.data=.seq #[.int a t,.str b u] n∧kc x=a::nums b):Cmp prog w A E s (tuples' true) U (bk kc):=zsa fun x y hx hy E' Q hq=>by
 obtain ⟨p,o,n,a,t,b,u,e,ho,hd,k⟩:=hU x hx
 obtain ⟨p',o',n',a',t',b',u',e',ho',hd',k'⟩:=hU y hy
 rw [e,e']
 refine zkl ho hd ho' hd' (eq:=decide (b=b')) (lt:=decide (b.cps.toList < b'.cps.toList)) (fun Q h=>wpAny_eqBool_str h) (fun Q h=>ztb h) ?_
 have:bk kc x y=(if a=a' then !(decide (b=b')) && decide (b.cps.toList < b'.cps.toList) else decide (a < a')):=by
   unfold bk;rw [k,k',← Bool.decide_coe (if a=a' then _ else _),decide_eq_decide,List.cons_lt_cons_iff]
   by_cases h1:a=a'
   · rw [if_pos h1];subst h1
     have:(nums b < nums b') ↔ b.cps.toList < b'.cps.toList:=map_lt _ _
     simp [this]
     rintro h2 rfl
     exact List.lt_irrefl _ h2
   · rw [if_neg h1];simp [h1]
 rw [← this];exact hq
end
end Srt
set_option maxHeartbeats 4000000
namespace Srt
open PySem PyProof.Rows
open Builtin.List (listItems listUpdate)
theorem kk1:((("key":Str) != ("key":Str)) && (("key":Str) != ("reverse":Str)))=false:=by decide +kernel
theorem kk2 {v:Value}:List.lookup ("key":Str) [(("key":Str),v)]=some v:=by simp [List.lookup]
theorem kk3 {v:Value}:List.lookup ("reverse":Str) [(("key":Str),v)]=none:=by
 have:(("reverse":Str) == ("key":Str))=false:=by decide +kernel
 simp [List.lookup,this]
def keysLoop (a:Addr) (items:Array Value) (kf keyStore:Value):Sem PUnit :=
 forIn items PUnit.unit fun x __s=>do
   let __do_lift ← (call kf [x]).attempt
   match __do_lift with
   | Except.ok k=>do
     listUpdate keyStore fun x=>x.push k
     pure (ForInStep.yield PUnit.unit)
   | Except.error e=>do
     rule "list.sort.key-raised"
     let made ← listItems keyStore
     listUpdate keyStore fun x=>#[]
     letGo made.toList.reverse [e]
     listUpdate (Value.ref a) fun x=>items
     throw (α:=Unit) e
     pure (ForInStep.yield PUnit.unit)
theorem zlq (a:Addr) (kf:Value) (hn:(kf != Value.none)=true):Builtin.«list.sort» ⟨[.ref a],[("key",kf)]⟩=(do
   let items ← listItems (.ref a)
   listUpdate (.ref a) fun _=>#[]
   let before ← seqEpoch a
   let held ← newTuple items.toList
   let keyStore ← newList []
   holding [held,keyStore] do
     rule "list.sort.key"
     keysLoop a items kf keyStore
     let keys ← listItems keyStore
     let kind ← if items.size < 2 then pure general' else keyKind' keys
     let ((),s) ← (if items.size < 2 then pure () else sortRuns').run (SortSt.mk' kind (keys.zip items) #[] 7 none)
     let sorted:=(arrOf s).map (·.2)
     listUpdate keyStore fun _=>#[]
     letGo ((arrOf s).map (·.1)).toList (failedOf s).toList
     let touched:=(← seqEpoch a) != before
     listUpdate (.ref a) fun _=>sorted
     if let some e:=failedOf s then rule "list.sort.comparison-raised";throw e
     if touched then rule "list.sort.modified";raiseError "ValueError" "list modified during sort"
     ret .none):=by
 unfold Builtin.«list.sort»
 have n2:¬ (0 + (0 + 1) > 2):=by decide
 simp only [List.length_nil,List.length_cons,List.isEmpty_nil,kk2,kk3,Option.getD_some,hn,if_neg n2,List.forIn_cons,List.forIn_nil,kk1,pure_bind,bind_assoc,if_true,if_false,Bool.false_eq_true,Bool.not_true]
 rfl
end Srt
set_option maxHeartbeats 4000000
namespace Srt
open PySem PyProof.Rows
open Builtin.List (listItems listUpdate)
section
variable {prog:Program}{w:World}{A:Around}{E:Value→Shared→Prop}{s:Shared}
def askHeap (h:Heap) (a:Addr) (vs:List Value):Heap:=((h.update a (Obj.mapSeq fun _=>#[])).push (seqObj "tuple" vs.toArray 0)).push (seqObj "list" #[] 0)
structure Keyd (prog:Program) (w:World) (A:Around) (E:Value→Shared→Prop) (a k:Addr) (e1:Nat) (vs:List Value) (P:Fin→Shared→Prop) (s2:Shared):Prop where
 ex:∃(keys:List Value) (m:Nat) (kd:SortKind) (U:Keyed→Prop) (kc:Keyed→List Int),s2.heap.get? k=some (seqObj "list" keys.toArray m)∧s2.heap.get? a=some (seqObj "list" #[] e1)∧keys.length=vs.length ∧
   (2≤vs.length→wpAny (model prog w) A (keyKind' keys.toArray) (fun kd' s'=>s'=s2∧kd'=kd) E s2)∧Cmp prog w A E s2 kd U (bk kc)∧(∀x∈keys.zip vs,U x)∧(keys.zip vs).Pairwise (fun x y=>kc x≠kc y) ∧
   ∀out:List Keyed,out.Perm (keys.zip vs)→out.Pairwise (fun x y=>¬ kc y < kc x)→P (.done (.ret .none)) { s2 with heap:=(s2.heap.update k (Obj.mapSeq fun _=>#[])).update a (Obj.mapSeq fun _=>(out.map (·.2)).toArray) }
theorem zih {a:Addr}{vs:List Value}{n:Nat}{kf:Value}{P:Fin→Shared→Prop} (hn:(kf != Value.none)=true) (ho:s.heap.get? a=some (seqObj "list" vs.toArray n)) (hl:vs.length≤100000)
   (h:∀e1,(askHeap s.heap a vs).get? a=some (seqObj "list" #[] e1)→wpAny (model prog w) A (keysLoop a vs.toArray kf (.ref (s.heap.objs.size + 1))) (fun _ s2=>Keyd prog w A E a (s.heap.objs.size + 1) e1 vs P s2) E { s with heap:=askHeap s.heap a vs }) :
   wpAny (model prog w) A (Builtin.«list.sort» ⟨[.ref a],[("key",kf)]⟩) P E s:=by
 rw [zlq a kf hn]
 have ha:a < s.heap.objs.size:=Heap.lt_size ho
 refine wpAny_bind (listItems_at ho rfl ?_)
 refine wpAny_bind (listUpdate_at ho rfl ?_)
 obtain ⟨e1,ho1⟩:∃e1,(s.heap.update a (Obj.mapSeq fun _=>#[])).get? a=some (seqObj "list" #[] e1):=⟨_,get?_update_seq ho (fun _=>#[])⟩
 refine wpAny_bind (seqEpoch_at ho1 rfl ?_)
 refine wpAny_bind (wpAny_newTuple ?_)
 refine wpAny_bind (wpAny_newList ?_)
 refine wpAny_holding ?_
 have ho6:(askHeap s.heap a vs).get? a=some (seqObj "list" #[] e1):=by
   unfold askHeap
   rw [Heap.get?_push_ne _ _ _ (by rw [size_push',Heap.size_update];exact Nat.ne_of_lt (Nat.lt_succ_of_lt ha)),Heap.get?_push_ne _ _ _ (by rw [Heap.size_update];exact Nat.ne_of_lt ha)]
   exact ho1
 have hk:((s.heap.update a (Obj.mapSeq fun _=>#[])).push (seqObj "tuple" vs.toArray 0)).objs.size=s.heap.objs.size + 1:=by rw [size_push',Heap.size_update]
 dsimp only
 rw [hk]
 refine wpAny_bind (wpAny_rule ?_)
 refine wpAny_bind (wpAny_mono (h e1 ho6) (fun _ s2 hs2=>?_) fun _ _ e=>e)
 obtain ⟨keys,m,kd,U,kc,gk,ga,lk,hkk,C,hU,hd,fin⟩:=hs2.ex
 have ka:a≠s.heap.objs.size + 1:=Nat.ne_of_lt (Nat.lt_succ_of_lt ha)
 refine wpAny_bind (listItems_at gk rfl ?_)
 have vsz:vs.toArray.size=vs.length:=by simp
 have zl:(keys.toArray.zip vs.toArray).toList=keys.zip vs:=by simp
 have sz2:(keys.zip vs).length=vs.length:=by rw [List.length_zip,lk,Nat.min_self]
 -- the end
 have done:∀st:SortSt,failedOf st=none→(arrOf st).toList.Perm (keys.zip vs)→(arrOf st).toList.Pairwise (fun x y=>¬ kc y < kc x)→wpAny (model prog w) A (do
     listUpdate (.ref (s.heap.objs.size + 1)) fun _=>#[]
     letGo ((arrOf st).map (·.1)).toList (failedOf st).toList
     let touched:=(← seqEpoch a) != e1
     listUpdate (.ref a) fun _=>(arrOf st).map (·.2)
     if let some e:=failedOf st then rule "list.sort.comparison-raised";throw e
     if touched then rule "list.sort.modified";raiseError "ValueError" "list modified during sort"
     ret .none) P E s2:=by
   intro st hf hp hs
   refine wpAny_bind (listUpdate_at gk rfl ?_)
   refine wpAny_bind (wpAny_letGo ?_)
   have ga2:(s2.heap.update (s.heap.objs.size + 1) (Obj.mapSeq fun _=>#[])).get? a=some (seqObj "list" #[] e1):=by
     rw [Heap.get?_update_ne _ _ _ _ ka];exact ga
   refine wpAny_bind (seqEpoch_at ga2 rfl ?_)
   refine wpAny_bind (listUpdate_at ga2 rfl ?_ (hsz2:=by
     show ((arrOf st).map (·.2)).size≤_
     rw [Array.size_map,← Array.length_toList,hp.length_eq,sz2,sizeLine_eq];omega))
   rw [hf]
   simp only [bne_self_eq_false,Bool.false_eq_true,if_false]
   have:=fin (arrOf st).toList hp hs
   have e:((arrOf st).toList.map (·.2)).toArray=(arrOf st).map (·.2):=by rw [← Array.toList_map,Array.toArray_toList]
   rw [e] at this
   exact wpAny_pure this
 by_cases h2:vs.toArray.size < 2
 · rw [if_pos h2,if_pos h2]
   refine wpAny_bind (wpAny_pure ?_)
   rw [StateT.run_pure]
   refine wpAny_bind (wpAny_pure ?_)
   refine done (SortSt.mk' general' (keys.toArray.zip vs.toArray) #[] 7 none) rfl (by show (keys.toArray.zip vs.toArray).toList.Perm _;rw [zl]) ?_
   show (keys.toArray.zip vs.toArray).toList.Pairwise _
   rw [zl]
   match hz:keys.zip vs,sz2 with
   | [],_=>exact List.Pairwise.nil
   | [x],_=>exact List.pairwise_singleton _ _
   | x::y::r,e=>rw [vsz] at h2;simp at e;omega
 · rw [if_neg h2,if_neg h2]
   refine wpAny_bind (wpAny_mono (hkk (by rw [vsz] at h2;omega)) (fun kd' s' hs'=>?_) fun _ _ e=>e)
   obtain ⟨rfl,rfl⟩:=hs'
   refine wpAny_bind (wpAny_mono (zla (st:=SortSt.mk' kd' (keys.toArray.zip vs.toArray) #[] 7 none) C rfl rfl rfl (fun x hx=>hU x (by rw [← zl];exact hx)) ?_ (Q:=fun _ st'=>(arrOf st').toList.Perm (keys.toArray.zip vs.toArray).toList∧failedOf st'=none∧(arrOf st').toList.Pairwise (le (bk kc))) fun st' a1 a2 a3=>⟨a1,a2,a3⟩) ?_ fun _ _ e=>e)
   · show (keys.toArray.zip vs.toArray).toList.Pairwise _
     rw [zl]
     refine hd.imp fun {x y} hxy=>?_
     simp only [bk,decide_eq_true_eq]
     by_cases q:kc x < kc y
     · exact .inl q
     · right
       by_cases q2:kc y < kc x
       · exact q2
       · exact absurd (List.le_antisymm (List.not_lt.mp q2) (List.not_lt.mp q)) hxy
   · rintro ⟨⟨⟩,st'⟩ s3 ⟨rfl,hp,hf,hs⟩
     refine done st' hf (by rw [zl] at hp;exact hp) (hs.imp fun {x y} q=>?_)
     simpa [le,bk] using q
end
end Srt
set_option maxHeartbeats 4000000
namespace Srt
open PySem PyProof.Rows
open Builtin.List (listItems listUpdate)
theorem zjn (a k:Value):argsOk "sorted" ⟨[a],[(("key":Str),k)]⟩:=by unfold argsOk;kernel_rfl
theorem zgt (a k:Value):argsOk "list.sort" ⟨[a],[(("key":Str),k)]⟩:=by unfold argsOk;kernel_rfl
section
variable {prog:Program}{w:World}{A:Around}{E:Value→Shared→Prop}{s:Shared}
def colHeap (h:Heap) (vs:List Value):Heap:=((h.push (seqObj "list" #[] 0)).update h.objs.size (Obj.mapSeq (·++vs.toArray))).push (seqObj "list" vs.toArray 0)
theorem col_size (h:Heap) (vs:List Value):(colHeap h vs).objs.size=h.objs.size + 2:=by unfold colHeap;rw [size_push',Heap.size_update,size_push']
theorem sorted_key {l:Addr}{vs:List Value}{kf:Value}{Q:Value→Shared→Prop} (hl:s.heap.IsList l vs.toArray) (hn:(kf != Value.none)=true) (hv:vs.length≤100000)
   (h:∀e1,(askHeap (colHeap s.heap vs) (s.heap.objs.size + 1) vs).get? (s.heap.objs.size + 1)=some (seqObj "list" #[] e1) →
     wpAny (model prog w) A.in1.in1 (keysLoop (s.heap.objs.size + 1) vs.toArray kf (.ref (s.heap.objs.size + 3))) (fun _ s2=>Keyd prog w A.in1.in1 E (s.heap.objs.size + 1) (s.heap.objs.size + 3) e1 vs (fun fin s'=>fin=.done (.ret .none)→Q (.ref (s.heap.objs.size + 1)) s') s2) E { s with heap:=askHeap (colHeap s.heap vs) (s.heap.objs.size + 1) vs }) :
   wpAny (model prog w) A (call (.builtin "sorted") [.ref l] [(("key":Str),kf)]) Q E s:=by
 refine call_function_entry_kw kind_sorted plain_sorted entry_sorted (zjn _ _) ?_
 unfold Builtin.«sorted»
 refine wpAny_bind (m:=checkCount "sorted" 1 1 _) (wpAny_pure ?_)
 have hz:=sizeLine_eq
 refine wpAny_bind (collect_list hl ?_ (by omega))
 refine wpAny_bind (wpAny_newList ?_)
 have hsz:((s.heap.push (seqObj "list" #[] 0)).update s.heap.objs.size (Obj.mapSeq (·++vs.toArray))).objs.size=s.heap.objs.size + 1:=by
   rw [Heap.size_update,size_push']
 have hoL:(colHeap s.heap vs).get? (s.heap.objs.size + 1)=some (seqObj "list" vs.toArray 0):=by
   unfold colHeap
   rw [← hsz];exact Heap.get?_push_size _ rfl
 show wpAny _ _ _ _ _ { s with heap:=colHeap s.heap vs }
 rw [hsz]
 have cs:(colHeap s.heap vs).objs.size + 1=s.heap.objs.size + 3:=by rw [col_size]
 refine wpAny_bind (wpAny_holding (wpAny_call_entry_kw slot_list_sort ⟨_,hoL,rfl⟩ entry_list_sort (wpAny_mono (zih (s:={ s with heap:=colHeap s.heap vs }) (P:=fun fin s'=>fin=.done (.ret .none)∧Q (.ref (s.heap.objs.size + 1)) s') hn hoL hv fun e1 he=>?_) (fun fin s' hf=>⟨.none,hf.1,wpAny_pure ⟨_,rfl,hf.2⟩⟩) fun _ _ e=>e) (zgt _ _)))
 show wpAny _ _ (keysLoop _ _ _ (.ref ((colHeap s.heap vs).objs.size + 1))) _ _ _
 rw [cs]
 refine wpAny_mono (h e1 he) (fun _ s2 k2=>?_) fun _ _ e=>e
 obtain ⟨keys,m,kd,U,kc,b1,b2,b3,b4,b5,b6,b7,b8⟩:=k2.ex
 exact ⟨keys,m,kd,U,kc,b1,b2,b3,b4,b5,b6,b7,fun out o1 o2=>⟨rfl,b8 out o1 o2 rfl⟩⟩
end
end Srt
set_option maxHeartbeats 4000000
namespace Srt
open PySem PyProof.Rows
open Builtin.List (listItems listUpdate)
theorem zhs (v:Value):firstOfTuple' v=(do
 if (← typeOf v) != .type "tuple" then return none
 return (← listItems v)[0]?):=rfl
section
variable {prog:Program}{w:World}{A:Around}{E:Value→Shared→Prop}{s:Shared}
def TupK (s:Shared) (v:Value):Prop:=∃p o n a t e,v=.ref p∧s.heap.get? p=some o∧o.cls=.type "tuple"∧o.data=.seq #[.int a t,e] n
theorem zww {v:Value} (h:TupK s v) {Q:Option Value→Shared→Prop} (hq:∀a t,Q (some (.int a t)) s):wpAny (model prog w) A (firstOfTuple' v) Q E s:=by
 obtain ⟨p,o,n,a,t,e,rfl,ho,hc,hd⟩:=h
 rw [zhs]
 refine wpAny_bind (wpAny_typeOf (T:="tuple") ⟨o,ho,hc⟩ ?_)
 have:(Value.type "tuple" != Value.type "tuple")=false:=by rfl
 rw [this]
 simp only [Bool.false_eq_true,if_false]
 refine wpAny_bind (listItems_at ho hd ?_)
 exact wpAny_pure (hq a t)
theorem zft:∀{vs:List Value},(∀v∈vs,TupK s v)→∀{Q:List (Option Value)→Shared→Prop},(∀fs:List Value,(∀f∈fs,∃a t,f=.int a t)→fs.length=vs.length→Q (fs.map some) s)→wpAny (model prog w) A (vs.mapM firstOfTuple') Q E s
 | [],_,Q,h=>by
   rw [List.mapM_nil]
   exact wpAny_pure (h [] (fun f hf=>by cases hf) rfl)
 | v::vs,hv,Q,h=>by
   rw [List.mapM_cons]
   refine wpAny_bind (zww (hv v (List.mem_cons_self ..)) fun a t=>?_)
   refine wpAny_bind (zft (fun u hu=>hv u (List.mem_cons_of_mem _ hu)) fun fs hf hl=>?_)
   refine wpAny_pure (h (.int a t::fs) (fun f hf'=>?_) (by simp [hl]))
   rcases List.mem_cons.mp hf' with rfl | hf'
   · exact ⟨a,t,rfl⟩
   · exact hf f hf'
theorem zgj:∀{fs:List Value},(∀f∈fs,∃a t,f=.int a t)→fs.mapM typeOf=(pure (fs.map fun _=>Value.type "int"):Sem (List Value))
 | [],_=>by simp
 | f::fs,h=>by
   obtain ⟨a,t,rfl⟩:=h f (List.mem_cons_self ..)
   rw [List.mapM_cons,zgj fun u hu=>h u (List.mem_cons_of_mem _ hu)]
   show (pure (Value.type "int") >>= fun b=>pure _ >>= fun bs=>pure (b::bs))=_
   simp
theorem keyKind_tup {keys:List Value} (h0:keys≠[]) (hf:∀v∈keys,TupK s v):wpAny (model prog w) A (keyKind' keys.toArray) (fun kd s'=>s'=s∧kd=tuples' true) E s:=by
 rw [keyKind'_eq,List.mapM_toArray]
 simp only [map_eq_pure_bind,bind_assoc,pure_bind]
 refine wpAny_bind (zft hf fun fs h1 h2=>?_)
 have e1:(fs.map some).toArray.all (·.isSome)=true:=by simp
 rw [if_pos e1]
 refine wpAny_bind (wpAny_rule ?_)
 have e2:(fs.map some).toArray.filterMap id=fs.toArray:=by simp
 rw [e2,oneTypeOnly'_eq,List.mapM_toArray,zgj h1]
 cases fs with
 | nil=>exact absurd (List.length_eq_zero_iff.mp h2.symm) h0
 | cons f fs =>
   simp only [map_pure,pure_bind,List.map_cons]
   have hall:((Value.type "int"::List.map (fun _=>Value.type "int") fs).toArray.all fun x=>x == Value.type "int")=true:=by
     rw [← List.map_cons (f:=fun _=>Value.type "int") (a:=f)]
     simp only [List.all_toArray,List.all_map,List.all_eq_true]
     intro _ _
     rfl
   have g0:(Value.type "int"::List.map (fun _=>Value.type "int") fs).toArray[0]? = some (Value.type "int"):=by simp
   rw [g0]
   simp only [hall,if_true,pure_bind]
   exact wpAny_pure ⟨rfl,rfl⟩
theorem keyKind_int {keys:List Value} (h2:2≤keys.length) (hf:∀v∈keys,∃a t,v=.int a t):wpAny (model prog w) A (keyKind' keys.toArray) (fun kd s'=>s'=s∧kd=oneType') E s:=by
 match keys,h2 with
 | v₁::v₂::vs,_ =>
   have:∀(l:List Value),(∀v∈l,∃a t,v=.int a t)→∃ns,IntsAre l ns:=by
     intro l
     induction l with
     | nil=>exact fun _=>⟨[],.nil⟩
     | cons v l ih =>
       intro h
       obtain ⟨a,t,rfl⟩:=h v (List.mem_cons_self ..)
       obtain ⟨ns,hn⟩:=ih fun u hu=>h u (List.mem_cons_of_mem _ hu)
       exact ⟨a::ns,.cons a t hn⟩
   obtain ⟨ns,hn⟩:=this _ hf
   rw [keyKind_ints hn]
   exact wpAny_pure ⟨rfl,rfl⟩
theorem keyKind_str {keys:List Value} (h2:2≤keys.length) (hf:∀v∈keys,∃a t,v=.str a t):wpAny (model prog w) A (keyKind' keys.toArray) (fun kd s'=>s'=s∧kd=oneType') E s:=by
 match keys,h2 with
 | v₁::v₂::vs,_ =>
   rw [keyKind_strs (strsAre_map _ hf)]
   exact wpAny_pure ⟨rfl,rfl⟩
end
end Srt
namespace F
open PySem L2 PySem.Spec PySem.Calls PyProof.Rows PySem.W
open Builtin.List (listItems listUpdate)
def insK {α:Type} (c:α→List Int) (x:α):List α→List α
 | []=>[x]
 | y::l=>if c y < c x then y::insK c x l else x::y::l
def zcm {α:Type} (c:α→List Int):List α→List α
 | []=>[]
 | x::l=>insK c x (zcm c l)
section
variable {α β:Type}{c:α→List Int}{c':β→List Int}
theorem ziv (x:α):∀l:List α,(insK c x l).Perm (x::l)
 | []=>List.Perm.refl _
 | y::l=>by
   unfold insK
   split
   · exact ((ziv x l).cons y).trans (List.Perm.swap x y l)
   · exact List.Perm.refl _
theorem zcq:∀l:List α,(zcm c l).Perm l
 | []=>List.Perm.refl _
 | x::l=>(ziv x _).trans ((zcq l).cons x)
theorem zwm (x:α):∀l:List α,l.Pairwise (fun a b=>¬ c b < c a)→(insK c x l).Pairwise (fun a b=>¬ c b < c a)
 | [],_=>List.pairwise_singleton _ _
 | y::l,h=>by
   obtain ⟨h1,h2⟩:=List.pairwise_cons.mp h
   unfold insK
   split
   · rename_i hy
     refine List.pairwise_cons.mpr ⟨fun z hz=>?_,zwm x l h2⟩
     rcases List.mem_cons.mp ((ziv x l).mem_iff.mp hz) with rfl | hz
     · exact List.lt_asymm hy
     · exact h1 z hz
   · rename_i hy
     refine List.pairwise_cons.mpr ⟨fun z hz=>?_,h⟩
     rcases List.mem_cons.mp hz with rfl | hz
     · exact hy
     · exact List.not_lt.mpr (List.le_trans (List.not_lt.mp hy) (List.not_lt.mp (h1 z hz)))
theorem zit:∀l:List α,(zcm c l).Pairwise (fun a b=>¬ c b < c a)
 | []=>List.Pairwise.nil
 | x::l=>zwm x _ (zit l)
theorem zrn (f:α→β) (h:∀a,c' (f a)=c a) (x:α):∀l:List α,insK c' (f x) (l.map f)=(insK c x l).map f
 | []=>rfl
 | y::l=>by
   rw [List.map_cons]
   unfold insK
   rw [h,h]
   split
   · rw [List.map_cons,zrn f h x l]
   · rfl
theorem zfk (f:α→β) (h:∀a,c' (f a)=c a):∀l:List α,zcm c' (l.map f)=(zcm c l).map f
 | []=>rfl
 | x::l=>by
   rw [List.map_cons]
   unfold zcm
   rw [zfk f h l,zrn f h]
theorem zox {l out:List α} (hp:out.Perm l) (hs:out.Pairwise (fun a b=>¬ c b < c a)) (hd:l.Pairwise (fun a b=>c a≠c b)):out=zcm c l:=by
 have hd2:∀a b,a∈l→b∈l→c a=c b→a=b:=by
   clear hp hs
   induction l with
   | nil=>intro a b ha;cases ha
   | cons x l ih =>
     obtain ⟨h1,h2⟩:=List.pairwise_cons.mp hd
     intro a b ha hb e
     rcases List.mem_cons.mp ha with ea | ma
     · rcases List.mem_cons.mp hb with eb | mb
       · rw [ea,eb]
       · rw [ea] at e;exact absurd e (h1 b mb)
     · rcases List.mem_cons.mp hb with eb | mb
       · rw [eb] at e;exact absurd e.symm (h1 a ma)
       · exact ih h2 a b ma mb e
 refine List.Perm.eq_of_pairwise (le:=fun a b=>¬ c b < c a) (fun a b ha hb h1 h2=>?_) hs (zit l) (hp.trans (zcq l).symm)
 exact hd2 a b (hp.mem_iff.mp ha) ((zcq l).mem_iff.mp hb) (List.le_antisymm (List.not_lt.mp h1) (List.not_lt.mp h2))
end
def keyC:D→List Int
 | .int n=>[n]
 | .str z=>Srt.nums z
 | .tup [.int a,.int b]=>[a,b]
 | .tup [.int a,.str z]=>a::Srt.nums z
 | _=>[]
def zdh:D→Nat
 | .int _=>0
 | .str _=>1
 | .tup [.int _,.int _]=>2
 | .tup [.int _,.str _]=>3
 | _=>4
theorem zch {d:D} (h:zdh d < 4):(∃n,d=.int n)∨(∃z,d=.str z)∨(∃a b,d=.tup [.int a,.int b])∨(∃a z,d=.tup [.int a,.str z]):=by
 unfold zdh at h
 split at h
 · exact .inl ⟨_,rfl⟩
 · exact .inr (.inl ⟨_,rfl⟩)
 · exact .inr (.inr (.inl ⟨_,_,rfl⟩))
 · exact .inr (.inr (.inr ⟨_,_,rfl⟩))
 · exact absurd h (by decide)
def atomC:Value→List Int
 | .int n _=>[n]
 | .str z _=>Srt.nums z
 | _=>[]
def valC (h:Heap):Value→List Int
 | .ref p=>(match h.get? p with
   | some o=>(match o.data with
     | .seq its _=>its.toList.flatMap atomC
     | _=>[])
   | none=>[])
 | v=>atomC v
def zky (h:Heap):Nat→Value→List Int→Prop
 | 0,u,c=>∃n t,u=.int n t∧c=[n]
 | 1,u,c=>∃z t,u=.str z t∧c=Srt.nums z
 | 2,u,c=>∃p o n a t b t',u=.ref p∧h.get? p=some o∧o.cls=.type "tuple"∧o.data=.seq #[.int a t,.int b t'] n∧c=[a,b]
 | 3,u,c=>∃p o n a t b t',u=.ref p∧h.get? p=some o∧o.cls=.type "tuple"∧o.data=.seq #[.int a t,.str b t'] n∧c=a::Srt.nums b
 | _,_,_=>False
theorem zuw {h:Heap}{n:Nat}{u:Value}{c:List Int} (q:zky h n u c):valC h u=c:=by
 match n,q with
 | 0,q=>obtain ⟨n,t,e,f⟩:=q;subst e f;rfl
 | 1,q=>obtain ⟨n,t,e,f⟩:=q;subst e f;rfl
 | 2,q =>
   obtain ⟨p,o,n,a,t,b,t',e,ho,_,hd,f⟩:=q
   subst e f
   simp only [valC,ho,hd]
   rfl
 | 3,q =>
   obtain ⟨p,o,n,a,t,b,t',e,ho,_,hd,f⟩:=q
   subst e f
   simp [valC,ho,hd,atomC]
 | n + 4,q=>exact False.elim q
section
variable {X:Cx}{pins:List (Addr×Obj)}{σ:L2.St}{H:Hp}{s:Shared}{ρ:List Addr}
theorem shape_of {d:D}{v:V}{u:Value} (I:Inv X pins σ H s) (hk:zdh d < 4) (r:Rep X.K X.mg ρ H d v) (q:RelV v u):zky s.heap (zdh d) u (keyC d):=by
 rcases zch hk with ⟨n,rfl⟩ | ⟨z,rfl⟩ | ⟨a,b,rfl⟩ | ⟨a,z,rfl⟩
 · unfold Rep at r;subst r
   obtain ⟨t,rfl⟩:=q
   exact ⟨n,t,rfl,rfl⟩
 · unfold Rep at r;subst r
   obtain ⟨t,rfl⟩:=q
   exact ⟨z,t,rfl,rfl⟩
 · unfold Rep at r
   obtain ⟨p,vs,rfl,ht,rl⟩:=r
   obtain rfl:u=Value.ref p:=q
   simp only [RepL,Rep] at rl
   obtain ⟨v1,r1,rfl,rfl,v2,r2,rfl,rfl,rfl⟩:=rl
   obtain ⟨its,rv,⟨o,e,c,n,dd⟩,_⟩:=I.tuple ht.sq
   cases rv with
   | cons q1 rv =>
     cases rv with
     | cons q2 rv =>
       cases rv
       obtain ⟨t1,rfl⟩:=q1
       obtain ⟨t2,rfl⟩:=q2
       exact ⟨p,o,n,a,t1,b,t2,rfl,e,c,dd,rfl⟩
 · unfold Rep at r
   obtain ⟨p,vs,rfl,ht,rl⟩:=r
   obtain rfl:u=Value.ref p:=q
   simp only [RepL,Rep] at rl
   obtain ⟨v1,r1,rfl,rfl,v2,r2,rfl,rfl,rfl⟩:=rl
   obtain ⟨its,rv,⟨o,e,c,n,dd⟩,_⟩:=I.tuple ht.sq
   cases rv with
   | cons q1 rv =>
     cases rv with
     | cons q2 rv =>
       cases rv
       obtain ⟨t1,rfl⟩:=q1
       obtain ⟨t2,rfl⟩:=q2
       exact ⟨p,o,n,a,t1,z,t2,rfl,e,c,dd,rfl⟩
theorem shapes (I:Inv X pins σ H s) {n:Nat} (hn:n < 4):∀{kd:List D}{ws:List V}{ks:List Value},RepL X.K X.mg ρ H kd ws→Vals ws ks→(∀d∈kd,zdh d=n)→(∀v∈ks,zky s.heap n v (valC s.heap v))∧ks.map (valC s.heap)=kd.map keyC
 | [],_,_,r,q,_=>by
   unfold RepL at r;subst r
   cases q
   exact ⟨fun v hv=>(by cases hv),rfl⟩
 | d::kd,_,_,r,q,hk=>by
   unfold RepL at r
   obtain ⟨v,vs,rfl,r1,r2⟩:=r
   cases q with
   | cons q1 q2 =>
     rename_i u us
     obtain ⟨h1,h2⟩:=shapes I hn r2 q2 fun d hd=>hk d (List.mem_cons_of_mem _ hd)
     have e:=hk d List.mem_cons_self
     have sh:=shape_of I (by rw [e];exact hn) r1 q1
     rw [e] at sh
     have ev:=zuw sh
     refine ⟨fun v hv=>?_,by rw [List.map_cons,List.map_cons,h2,ev]⟩
     rcases List.mem_cons.mp hv with z | z
     · rw [z,ev];exact sh
     · exact h1 v z
end
section
variable {prog:Program}{w:World}{A:Around}{E:Value→Shared→Prop}{s:Shared}{U:Keyed→Prop}{kc:Keyed→List Int}
theorem zux {n:Nat} (hn:n < 4) (hU:∀x,U x→zky s.heap n x.1 (kc x)):∃kd,Srt.Cmp prog w A E s kd U (Srt.bk kc)∧∀keys:List Value,2≤keys.length→(∀v∈keys,∃c,zky s.heap n v c)→wpAny (model prog w) A (keyKind' keys.toArray) (fun kd' s'=>s'=s∧kd'=kd) E s:=by
 match n,hn,hU with
 | 0,_,hU=>exact ⟨_,Srt.cmp_int hU,fun keys h2 hf=>Srt.keyKind_int h2 fun v hv=>let ⟨c,a,t,e,_⟩:=hf v hv;⟨a,t,e⟩⟩
 | 1,_,hU=>exact ⟨_,Srt.cmp_str hU,fun keys h2 hf=>Srt.keyKind_str h2 fun v hv=>let ⟨c,a,t,e,_⟩:=hf v hv;⟨a,t,e⟩⟩
 | 2,_,hU=>exact ⟨_,Srt.cmp_ii fun x hx=>let ⟨p,o,n,a,t,b,u,e,ho,_,hd,k⟩:=hU x hx;⟨p,o,n,a,t,b,u,e,ho,hd,k⟩,fun keys h2 hf=>Srt.keyKind_tup (fun z=>by rw [z] at h2;exact absurd h2 (by decide)) fun v hv=>let ⟨c,p,o,n,a,t,b,u,e,ho,hc,hd,_⟩:=hf v hv;⟨p,o,n,a,t,.int b u,e,ho,hc,hd⟩⟩
 | 3,_,hU=>exact ⟨_,Srt.cmp_is fun x hx=>let ⟨p,o,n,a,t,b,u,e,ho,_,hd,k⟩:=hU x hx;⟨p,o,n,a,t,b,u,e,ho,hd,k⟩,fun keys h2 hf=>Srt.keyKind_tup (fun z=>by rw [z] at h2;exact absurd h2 (by decide)) fun v hv=>let ⟨c,p,o,n,a,t,b,u,e,ho,hc,hd,_⟩:=hf v hv;⟨p,o,n,a,t,.str b u,e,ho,hc,hd⟩⟩
end
section
variable {X:Cx}{pins:List (Addr×Obj)}{σ:L2.St}{H:Hp}{s:Shared}{ρ:List Addr}{k:Nat}{t:LT}{g:G}{cl:List (Str×Addr)}{is:List Nat}{kv:List D}{ev:Ev}{a c:Addr}{pm ct:Value}{S S':Sto}
theorem zsb {A:Around}{ds:List D}{d':D}{vs:List V}{us:List Value}{Q:VK}{E:Value→Shared→Prop} (cal:CCal X.prog X.w X.K X.mg X.base k t g) (hn:∀b∈cl.map (·.2),H b=none) (isc:∀b∈cl.map (·.2),∃o v,s.heap.get? b=some o∧o.data=.cell v) (nodup:(cl.map (·.2)).Nodup)
   (nst:∀b∈cl.map (·.2),b∉frs X.stack) (nb:∀b∈cl.map (·.2),X.base.get? b=none) {cs:List V} (hcs:Cells ρ (trk H s.heap cl) t.caps cs cl) (rk:RepL X.K X.mg ρ H kv cs)
   (hr:Room k A) (env0:∀{H':Hp},Env0 X.prog X.w X.K X.mg X.base X.A X.stack s H'→Env0 X.prog X.w X.K X.mg X.base A X.stack s H')
   (I:Inv X pins σ H s) (hS:StOk X.K X.mg ρ H S) (na:a∉ρ) (nc:c∉ρ) (hA:H a=some (.ext (cloP t cl a c pm ct))) (hC:H c=some (.ext (zeb c t.qual)))
   (rd:RepL X.K X.mg ρ H ds vs) (rv:Vals vs us) (hlen:ds.length=t.params.args.length) (hno:(noCL ds && noCL kv && noCS S)=true) (hg:g (ds++kv) S=some (d',S')) (hno':(noC d' && noCS S')=true)
   (kk:∀v ρ' H',Ext ρ H ρ' H'→StOk X.K X.mg ρ' H' S'→Rep X.K X.mg ρ' H' d' v→Q v H') :
   wpAny (model X.prog X.w) A (call (.ref a) us) (EP X pins σ Q) E s:=by
 obtain ⟨ps,F,hb⟩:=cal.ex
 rw [Bool.and_eq_true] at hno'
 obtain ⟨n1,n2⟩:=hno'
 have E2:Ext ρ H ρ (trk H s.heap cl):=⟨fun _ _ e=>e,fun b o h n=>by
   unfold trk
   rw [zbn (fun z=>by rw [hn b z] at h;cases h)];exact h,fun _ z n=>absurd z n⟩
 have hS2:StOk X.K X.mg ρ (trk H s.heap cl) S:=hS.on hn
 have cin:CellsIn (trk H s.heap cl) cl:=fun b hb=>by
   obtain ⟨o,v,h1,_⟩:=isc b hb
   exact ⟨o,by unfold trk;rw [zfs hb,h1];rfl⟩
 have hok0:HOk X.prog X.w (trk H s.heap cl) s.heap:=fun b u e=>by
   unfold trk at e
   by_cases z:b∈cl.map (·.2)
   · obtain ⟨o,v,h1,_⟩:=isc b z
     rw [zfs z,h1] at e
     cases e
     exact ⟨h1,⟨o,h1⟩⟩
   · rw [zbn z] at e
     refine (I.hok b u e).stay (fun _ _ _ q=>q) (fun d q=>?_) fun d xs q=>?_
     · unfold trk;rw [zbn (fun y=>by rw [hn d y] at q;cases q)];exact q
     · unfold trk;rw [zbn (fun y=>by rw [hn d y] at q;cases q)];exact q
 have e0:Env0 X.prog X.w X.K X.mg X.base X.A X.stack s (trk H s.heap cl):=by
   have e:=I.env0
   refine ⟨e.frames,e.mod,fun b o h=>⟨(e.bs b o h).1,?_⟩,e.bsz,e.funs,fun b hb=>?_,hok0,e.bare⟩
   · unfold trk
     rw [zbn];exact (e.bs b o h).2
     intro z
     rw [nb b z] at h;cases h
   · unfold trk
     rw [zbn];exact e.frf b hb
     exact fun z=>nst b z hb
 have hsp:zur X.K X.mg t a c pm ct cl g vs (trk H s.heap cl) (fun v H'=>CellsIn H' cl→Q v (offC H' cl)) E0 :=
   ⟨ρ,ds,S,d',S',cs,kv,rd.mono E2,hS2,E2.keep _ _ hA na,E2.keep _ _ hC nc,nodup,hcs,rk.mono E2,hno,hg,hlen,fun v ρ' H' E' hS' r' ci=>by
     refine kk v ρ' (offC H' cl) ⟨E'.pre,fun b o hb nb=>?_,fun b hb nb=>?_⟩ (hS'.off ci n2) (r'.off ci n1)
     · have z:b∉cl.map (·.2):=fun z=>by rw [hn b z] at hb;cases hb
       rw [zcg z]
       exact E'.keep b o (E2.keep b o hb nb) nb
     · have:=E'.new b hb nb
       by_cases z:b∈cl.map (·.2)
       · exact hn b z
       · unfold trk at this;rw [zbn z] at this;exact this⟩
 have hl:(us++[]).length=ps.length:=by rw [List.append_nil,← rv.length];exact (F a c pm ct cl).len _ _ _ _ hsp
 have hbt:=hb c pm ct cl s us I.kIn hl
 rw [List.append_nil] at hbt
 refine wpAny_call (codeAny_mono ((F a c pm ct cl).run A X.stack s (trk H s.heap cl) ⟨us,[]⟩ us _ _ E0 hr (env0 e0) hbt rv hsp) fun r s' hq=>?_)
 cases r with
 | error e=>exact hq.elim
 | ok fl =>
   cases fl with
   | ret u =>
     obtain ⟨v,H',os,bare,un,hok,rv,q⟩:=hq
     have ci:CellsIn H' cl:=fun b hb=>let ⟨o,z⟩:=cin b hb;⟨o,un.frzs b o _ z⟩
     obtain ⟨hh,gn,dr,tt,os'⟩:=s'
     obtain rfl:os'=s.os:=os
     exact ⟨v,offC H' cl,I.call (h':=hh) (g':=gn) (d':=dr) (t':=tt) (ch:=[]) (un_off hn un (fun b hb=>let ⟨o,_,z,_⟩:=isc b hb;⟨o,z⟩) (fun b o w z=>(hok b _ z).1)) (zpm hok ci) bare (fun b z=>absurd z (by simp)),rv,q ci⟩
   | next=>exact False.elim hq
   | brk=>exact False.elim hq
   | cont=>exact False.elim hq
theorem CapsOk.nst (C:CapsOk X t cl is) (I:Inv X pins σ H s):∀b∈cl.map (·.2),b∉frs X.stack:=fun b hb z=>by
 obtain ⟨p,hp,rfl⟩:=List.mem_map.mp hb
 rcases List.mem_cons.mp (I.stkSub _ z) with y | y
 · exact I.cne _ _ (C.look p hp) y
 · obtain ⟨_,o',h3,_⟩:=I.ok.funs.mem y
   have:=I.ok.cab p.1 p.2 (C.fn _ (C.names ▸ List.mem_map_of_mem hp)) (C.look p hp)
   exact absurd (Heap.lt_size h3) (Nat.not_lt.mpr this)
theorem CapsOk.nb (C:CapsOk X t cl is) (I:Inv X pins σ H s):∀b∈cl.map (·.2),X.base.get? b=none:=fun b hb=>by
 obtain ⟨p,hp,rfl⟩:=List.mem_map.mp hb
 have:=I.ok.cab p.1 p.2 (C.fn _ (C.names ▸ List.mem_map_of_mem hp)) (C.look p hp)
 exact Heap.get?_none_of_le (Nat.le_trans I.ok.bsz this)
def zpl (g:G) (n:Nat) (kv:List D):List D→Sto→Option (List D×Sto)
 | [],S=>some ([],S)
 | d::ds,S=>if (noCL [d] && noCL kv && noCS S)=true∧n=1 then (g ([d]++kv) S).bind fun p=>if (noC p.1 && noCS p.2)=true then (zpl g n kv ds p.2).map fun q=>(p.1::q.1,q.2) else none else none
def zsk (a:Addr) (items:Array Value) (kf keyStore x:Value):Sem (ForInStep PUnit):=do
 let __do_lift ← (call kf [x]).attempt
 match __do_lift with
 | Except.ok k=>do
   listUpdate keyStore fun x=>x.push k
   pure (ForInStep.yield PUnit.unit)
 | Except.error e=>do
   rule "list.sort.key-raised"
   let made ← listItems keyStore
   listUpdate keyStore fun x=>#[]
   letGo made.toList.reverse [e]
   listUpdate (Value.ref a) fun x=>items
   throw (α:=Unit) e
   pure (ForInStep.yield PUnit.unit)
theorem zma (a:Addr) (items:List Value) (kf keyStore:Value):Srt.keysLoop a items.toArray kf keyStore=forIn items PUnit.unit fun x _=>zsk a items.toArray kf keyStore x:=by
 unfold Srt.keysLoop
 rw [List.forIn_toArray]
 rfl
theorem znr {ks aL:Addr}{E:Value→Shared→Prop} (cal:CCal X.prog X.w X.K X.mg X.base k t g) (C:CapsOk X t cl is) (hr:Room k X.A.in1.in1) (hkv:zfr ev is=some kv)
   (hL:ks≠X.env.locals) (h1:ks∈X.ex∨X.s₀.heap.objs.size≤ks) (h2:∀x c,X.env.cells.lookup x=some c→c≠ks) (h3:∀p∈X.pn++pins,p.1≠ks) (hf:ks∉X.fs) (items:Array Value) {R:Shared→Prop} :
   ∀(ds:List D) (us:List Value) (vs:List V) (kd accD:List D) (accV:List V) (acc:List Value) (m:Nat) (s:Shared) (H:Hp) (ρ:List Addr) (S S':Sto),
     EnvR X.K X.mg ρ H ev σ→StOk X.K X.mg ρ H S→RepL X.K X.mg ρ H ds vs→Vals vs us→RepL X.K X.mg ρ H accD accV→Vals accV acc→a∉ρ→c∉ρ→H a=some (.ext (cloP t cl a c pm ct))→H c=some (.ext (zeb c t.qual))→zpl g t.params.args.length kv ds S=some (kd,S') →
     Inv X pins σ H s→s.heap.get? ks=some (seqObj "list" acc.toArray m)→H ks=none→acc.length + us.length≤100000 →
     (∀(keysV:List V) (keys:List Value) (m:Nat) (s':Shared) (H':Hp) (ρ':List Addr),Ext ρ H ρ' H'→StOk X.K X.mg ρ' H' S'→RepL X.K X.mg ρ' H' (accD++kd) keysV→Vals keysV keys→keys.length=acc.length + us.length→Inv X pins σ H' s'→s'.heap.get? ks=some (seqObj "list" keys.toArray m)→H' ks=none→R s') →
     wpAny (model X.prog X.w) X.A.in1.in1 (forIn us PUnit.unit fun x _=>zsk aL items (.ref a) (.ref ks) x) (fun _ s'=>R s') E s
 | [],us,vs,kd,accD,accV,acc,m,s,H,ρ,S,S',hE,hS,rd,rv,ra,va,na,nc,hA,hC,hk,I,gk,nk,hl,fin=>by
   unfold RepL at rd;subst rd
   cases rv
   cases hk
   rw [List.forIn_nil]
   exact wpAny_pure (fin accV acc m s H ρ (Ext.refl _ _) hS (by rw [List.append_nil];exact ra) va (by simp) I gk nk)
 | d::ds,us,vs,kd,accD,accV,acc,m,s,H,ρ,S,S',hE,hS,rd,rv,ra,va,na,nc,hA,hC,hk,I,gk,nk,hl,fin=>by
   unfold RepL at rd
   obtain ⟨v,vs,rfl,rd1,rd2⟩:=rd
   cases rv with
   | cons rv0 rv1 =>
     rename_i u us
     unfold zpl at hk
     split at hk
     · rename_i hno
       obtain ⟨hno,hn1⟩:=hno
       obtain ⟨⟨d',S1⟩,hg,hk⟩:=zaq hk
       dsimp only at hk
       split at hk
       · rename_i hno'
         obtain ⟨⟨kd',S2⟩,hk1,hk2⟩:=mapS hk
         cases hk2
         rw [List.forIn_cons]
         unfold zsk
         simp only [bind_assoc]
         have Ik:Inv X (pins++[(ks,seqObj "list" acc.toArray m)]) σ H s:=I.pins_of fun p hp=>by
           rcases List.mem_append.mp hp with q | q
           · exact I.pin p (List.mem_append_right _ q)
           · rw [List.mem_singleton.mp q];exact ⟨gk,nk,hL,hf,fun v e=>by cases e⟩
         obtain ⟨cs,hcs,rk⟩:=zjg C Ik hE hS cl is kv (fun _ h=>h) (by
           rw [C.at_,← C.names,List.map_map];rfl) hkv
         rw [C.names] at hcs
         refine wpAny_bind (wpAny_attempt (thn (zsb (A:=X.A.in1.in1) (Q:=fun v H'=>∃ρ',Ext ρ H ρ' H'∧StOk X.K X.mg ρ' H' S1∧Rep X.K X.mg ρ' H' d' v) cal (C.hn Ik) (C.isc Ik) (C.nodup Ik) (C.nst Ik) (C.nb Ik) hcs rk hr (fun e=>e.in1.in1) Ik hS na nc hA hC (RepL.cons rd1 RepL.nil) (.cons rv0 .nil) (by rw [hn1];rfl) hno hg hno' fun v ρ' H' E' hS' r'=>⟨ρ',E',hS',r'⟩) fun q s' hq=>?_))
         obtain ⟨v',H1,I1,rv,ρ1,E1,hS1,r1⟩:=hq
         obtain ⟨gk1,nk1,_⟩:=I1.pin (ks,seqObj "list" acc.toArray m) (List.mem_append_right _ (List.mem_append_right _ (List.mem_singleton.mpr rfl)))
         have I2:Inv X pins σ H1 s':=I1.unpinned
         dsimp only
         refine wpAny_bind (wpAny_bind (listUpdate_at (f:=fun x=>x.push q) gk1 rfl ?_ (hsz2:=by
           show (acc.toArray.push q).size≤_
           rw [Array.size_push,List.size_toArray,sizeLine_eq]
           rw [List.length_cons] at hl
           omega)))
         refine wpAny_pure ?_
         show wpAny (model X.prog X.w) X.A.in1.in1 (forIn us PUnit.unit fun x _=>zsk aL items (.ref a) (.ref ks) x) (fun _ s'=>R s') E _
         have keep:∀b o,b≠ks→s'.heap.get? b=some o→(s'.heap.update ks (Obj.mapSeq fun x=>x.push q)).get? b=some o:=fun b o nb e=>by rw [Heap.get?_update_ne _ _ _ _ nb];exact e
         have I3:=I2.turned (t':=s'.toks) keep nk1 hL h1 h2 h3
         obtain ⟨m2,gk2⟩:∃m2,(s'.heap.update ks (Obj.mapSeq fun x=>x.push q)).get? ks=some (seqObj "list" (acc++[q]).toArray m2):=by
           have e:=get?_update_seq gk1 (fun x=>x.push q)
           have e2:acc.toArray.push q=(acc++[q]).toArray:=by simp
           rw [e2] at e
           exact ⟨_,e⟩
         refine znr cal C hr hkv hL h1 h2 h3 hf items ds us vs kd' (accD++[d']) (accV++[v']) (acc++[q]) m2 _ H1 ρ1 S1 S2 (hE.mono E1) hS1 (rd2.mono E1) rv1 ((ra.mono E1).append (RepL.cons r1 RepL.nil)) (va.append (.cons rv .nil)) (E1.out hA na) (E1.out hC nc) (E1.keep _ _ hA na) (E1.keep _ _ hC nc) hk1 I3 gk2 nk1 (by rw [List.length_append];rw [List.length_cons] at hl;simp;omega) fun keysV keys m3 s3 H3 ρ3 c0 c1 c2 c3 c4 c5 c6 c7=>?_
         refine fin keysV keys m3 s3 H3 ρ3 (E1.trans c0) c1 ?_ c3 (by rw [c4,List.length_append,List.length_cons];simp;omega) c5 c6 c7
         rw [List.append_assoc] at c2
         exact c2
       · cases hk
     · cases hk
end
def kn (ks:List D):Nat:=zdh (ks.headD (.int 0))
def zus (ks ds:List D):Option (List D):=if kn ks < 4∧(∀d∈ks,zdh d=kn ks)∧(ks.map keyC).Pairwise (·≠·) then some ((zcm (fun p:List Int×D=>p.1) ((ks.map keyC).zip ds)).map (·.2)) else none
def znx (f:E) (g:G) (j:Nat) (y:Str) (t:LT) (is:List Nat):E:=fun ev S=>(f ev S).bind fun p=>(seeL p.2 p.1).bind fun ds=>match p.2[j]? with
 | some (.tab y' u)=>if y'=y∧u=t.qual∧ds.length≤100000 then (zfr ev is).bind fun kv=>(zpl g t.params.args.length kv ds p.2).bind fun q=>(zus q.1 ds).map fun r=>(.lst r,q.2) else none
 | _=>none
theorem see_sq {K mg ρ H S x ds v} (hS:StOk K mg ρ H S) (r:Rep K mg ρ H x v) (e:seeL S x=some ds):∃l vs,v=.ref l∧SqL K H l vs∧RepL K mg ρ H ds vs:=by
 cases x with
 | lst xs =>
   cases e
   unfold Rep at r
   obtain ⟨p,vs,rfl,t,rl⟩:=r
   exact ⟨p,vs,rfl,t.sq,rl⟩
 | obj i =>
   unfold Rep at r
   obtain ⟨a,rfl,ha⟩:=r
   have e:(match S[i]? with | some (.lst ds)=>some ds | _=>none)=some ds:=e
   split at e
   · rename_i ds' hd
     cases e
     obtain ⟨b,hb,vs,h1,h2⟩:=hS.adr hd
     rw [ha] at hb;cases hb
     exact ⟨a,vs,rfl,.inl (.inl h1),h2⟩
   · cases e
 | _=>cases e
theorem col_keep {h:Heap}{vs:List Value}{b:Addr}{o:Obj} (e:h.get? b=some o):(Srt.colHeap h vs).get? b=some o:=by
 unfold Srt.colHeap
 refine Heap.get?_push_of_some _ ?_
 rw [Heap.get?_update_ne _ _ _ _ (Nat.ne_of_lt (Heap.lt_size e))]
 exact Heap.get?_push_of_some _ e
theorem ask_keep {h:Heap}{a:Addr}{vs:List Value}{b:Addr}{o:Obj} (ne:b≠a) (e:h.get? b=some o):(Srt.askHeap h a vs).get? b=some o:=by
 unfold Srt.askHeap
 refine Heap.get?_push_of_some _ (Heap.get?_push_of_some _ ?_)
 rw [Heap.get?_update_ne _ _ _ _ ne];exact e
theorem ask_store {h:Heap}{a:Addr}{vs:List Value}:(Srt.askHeap h a vs).get? (h.objs.size + 1)=some (seqObj "list" ([]:List Value).toArray 0):=by
 unfold Srt.askHeap
 have:((h.update a (Obj.mapSeq fun _=>#[])).push (seqObj "tuple" vs.toArray 0)).objs.size=h.objs.size + 1:=by rw [size_push',Heap.size_update]
 rw [← this]
 exact Heap.get?_push_size _ rfl
theorem zip4a {α β γ δ:Type}:∀(ks:List α) (is:List β) (vs:List γ) (ds:List δ),ks.length=is.length→is.length=vs.length→vs.length=ds.length→(ks.zip (is.zip (vs.zip ds))).map (fun z=>(z.1,z.2.1))=ks.zip is
 | [],_,_,_,_,_,_=>by simp
 | k::ks,[],_,_,h,_,_=>by cases h
 | k::ks,i::is,[],_,_,h,_=>by cases h
 | k::ks,i::is,v::vs,[],_,_,h=>by cases h
 | k::ks,i::is,v::vs,d::ds,h1,h2,h3=>by
   simp only [List.zip_cons_cons,List.map_cons]
   rw [zip4a ks is vs ds (Nat.succ.inj h1) (Nat.succ.inj h2) (Nat.succ.inj h3)]
theorem zip4b {α β γ δ ε:Type} (f:α→ε):∀(ks:List α) (is:List β) (vs:List γ) (ds:List δ),ks.length=is.length→is.length=vs.length→vs.length=ds.length→(ks.zip (is.zip (vs.zip ds))).map (fun z=>(f z.1,z.2.2.2))=(ks.map f).zip ds
 | [],_,_,_,_,_,_=>by simp
 | k::ks,[],_,_,h,_,_=>by cases h
 | k::ks,i::is,[],_,_,h,_=>by cases h
 | k::ks,i::is,v::vs,[],_,_,h=>by cases h
 | k::ks,i::is,v::vs,d::ds,h1,h2,h3=>by
   simp only [List.zip_cons_cons,List.map_cons]
   rw [zip4b f ks is vs ds (Nat.succ.inj h1) (Nat.succ.inj h2) (Nat.succ.inj h3)]
theorem zty {K mg ρ H}:∀{ds:List D}{vs:List V}{us:List Value},RepL K mg ρ H ds vs→Vals vs us→∀z∈us.zip (vs.zip ds),RelV z.2.1 z.1∧Rep K mg ρ H z.2.2 z.2.1
 | [],_,_,r,q,z,hz=>by
   unfold RepL at r;subst r
   cases q
   cases hz
 | d::ds,_,_,r,q,z,hz=>by
   unfold RepL at r
   obtain ⟨v,vs,rfl,r1,r2⟩:=r
   cases q with
   | cons q1 q2 =>
     rcases List.mem_cons.mp hz with rfl | hz
     · exact ⟨q1,r1⟩
     · exact zty r2 q2 z hz
theorem zqj {α:Type}{f:α→V}{g:α→Value}:∀{l:List α},(∀z∈l,RelV (f z) (g z))→Vals (l.map f) (l.map g)
 | [],_=>.nil
 | z::l,h=>.cons (h z List.mem_cons_self) (zqj fun y hy=>h y (List.mem_cons_of_mem _ hy))
theorem zqu {K mg ρ H}{α:Type}{f:α→D}{g:α→V}:∀{l:List α},(∀z∈l,Rep K mg ρ H (f z) (g z))→RepL K mg ρ H (l.map f) (l.map g)
 | [],_=>RepL.nil
 | z::l,h=>RepL.cons (h z List.mem_cons_self) (zqu fun y hy=>h y (List.mem_cons_of_mem _ hy))
theorem zpz:bootBuiltins "sorted"=some (.builtin "sorted"):=by with_unfolding_all rfl
section
variable {X:Cx}{k j:Nat}{y:Str}{g:G}{f:E}{t:LT}{cl:List (Str×Addr)}{is:List Nat}{e le:Expr}{p pos kp:Pos}
theorem fe_sortC (cal:CCal X.prog X.w X.K X.mg X.base k t g) (C:CapsOk X t cl is) (hr:Room (k + 2) X.A) (he:FE X e f) (hl:PE X le (tClo X.K X.mg j y t cl)) (hm:X.mg "sorted"=none) (hg:Gl X "sorted":=by rfl)
   (hs:starEach [e] X.env=(false,eval e X.env)::starEach [] X.env:=by exact zay rfl):FE X (.Call (.Name "sorted" p) [e] [⟨some "key",le,kp⟩] pos) (znx f g j y t is):=by
 intro pins s σ H Q I h
 obtain ⟨ρ,ev,S,d,S',hE,hS,hf,kk⟩:=h
 unfold znx at hf
 obtain ⟨⟨x,S1⟩,q1,hf1⟩:=zaq hf
 clear hf
 obtain ⟨ds,q2,hf0⟩:=zaq hf1
 clear hf1
 dsimp only at hf0
 split at hf0
 · rename_i y' u hj
   split at hf0
   · rename_i hyu
     obtain ⟨rfl,rfl,hlen⟩:=hyu
     obtain ⟨kv,q3,hf⟩:=zaq hf0
     obtain ⟨⟨kd,S2⟩,q4,hf⟩:=zaq hf
     obtain ⟨r,q5,hf⟩:=mapS hf
     cases hf
     refine wpAny_Call_Name_kw (zik I hg hm zpz ?_ (by decide) (by decide))
     have hb0:backTo pos (starEach [e] X.env)=(false,eval e X.env)::backTo pos (starEach [] X.env):=by rw [hs];rfl
     refine callWith_kw ?_ hb0 (by rw [hb0];rfl)
     refine thn (zaa he zad hs pos pins s σ H (fun vs H1=>∃ρ1 v,vs=[v]∧Ext ρ H ρ1 H1∧StOk X.K X.mg ρ1 H1 S1∧Rep X.K X.mg ρ1 H1 x v) I ⟨ρ,ev,S,[x],S1,hE,hS,by unfold aC;rw [q1];rfl,fun vs ρ1 H1 E1 hS1 r1=>?_⟩) fun us s1 ⟨vs,H1,I1,rv,ρ1,v,ev1,E1,hS1,r1⟩=>?_
     · unfold RepL at r1
       obtain ⟨v,r',rfl,h1,h2⟩:=r1
       unfold RepL at h2;subst h2
       exact ⟨ρ1,v,rfl,E1,hS1,h1⟩
     · subst ev1
       cases rv with
       | @cons _ uu _ _ rv0 rv1 =>
         cases rv1
         refine kws_cons (thn (hl pins s1 σ H1 (fun v H2=>∃a c pm ct,v=.ref a∧Ext ρ1 H1 ρ1 H2∧StOk X.K X.mg ρ1 H2 S1∧a∉ρ1∧c∉ρ1∧H2 a=some (.ext (cloP t cl a c pm ct))∧H2 c=some (.ext (zeb c t.qual))) I1 ⟨ρ1,S1,hS1,hj,fun a c pm ct H' E' hS' na nc h1 h2=>⟨a,c,pm,ct,rfl,E',hS',na,nc,h1,h2⟩⟩) fun kfv s2 ⟨vk,H2,I2,rk,a,c,pm,ct,ek,E2,hS2,na,nc,hA,hC⟩=>kws_nil ?_)
         subst ek
         obtain rfl:kfv=Value.ref a:=rk
         show wpAny _ _ (call (.builtin "sorted") [uu] [(("key":Str),.ref a)]) _ _ _
         obtain ⟨l,vs,ev2,sq,rl⟩:=see_sq hS2 (r1.mono E2) q2
         subst ev2
         obtain rfl:uu=Value.ref l:=rv0
         obtain ⟨its,rvs,pl,hz⟩:=I2.list sq
         have l1:vs.length=its.length:=rvs.length
         have l2:ds.length=vs.length:=rl.length
         refine Srt.sorted_key pl.isList rfl (by omega) fun e1 he1=>?_
         have szc:(Srt.colHeap s2.heap its).objs.size + 1=s2.heap.objs.size + 3:=by rw [Srt.col_size]
         have keep:∀b o,s2.heap.get? b=some o→(Srt.askHeap (Srt.colHeap s2.heap its) (s2.heap.objs.size + 1) its).get? b=some o:=fun b o e=>ask_keep (Nat.ne_of_lt (Nat.lt_succ_of_lt (Heap.lt_size e))) (col_keep e)
         have gks:(Srt.askHeap (Srt.colHeap s2.heap its) (s2.heap.objs.size + 1) its).get? (s2.heap.objs.size + 3)=some (seqObj "list" ([]:List Value).toArray 0):=by rw [← szc];exact ask_store
         have I3:Inv X pins σ H2 { s2 with heap:=Srt.askHeap (Srt.colHeap s2.heap its) (s2.heap.objs.size + 1) its }:=I2.kept (t':=s2.toks) keep
         have fr:∀n,H2 (s2.heap.objs.size + n)=none:=fun n=>I2.hok.fresh (Nat.le_add_right _ _)
         have nl:∀n,s2.heap.objs.size + n≠X.env.locals:=fun n z=>absurd I2.lt (by rw [← z];exact Nat.not_lt.mpr (Nat.le_add_right _ _))
         have ncell:∀n x c,X.env.cells.lookup x=some c→c≠s2.heap.objs.size + n:=fun n x c e z=>by
           obtain ⟨v,o,ho,_⟩:=I2.cell x c e
           have:=Heap.lt_size ho
           rw [z] at this
           exact absurd this (Nat.not_lt.mpr (Nat.le_add_right _ _))
         have npin:∀n,∀p∈X.pn++pins,p.1≠s2.heap.objs.size + n:=fun n p hp z=>by
           have:=Heap.lt_size (I2.pin p hp).1
           rw [z] at this
           exact absurd this (Nat.not_lt.mpr (Nat.le_add_right _ _))
         have I4:Inv X (pins++[(s2.heap.objs.size + 1,seqObj "list" #[] e1)]) σ H2 { s2 with heap:=Srt.askHeap (Srt.colHeap s2.heap its) (s2.heap.objs.size + 1) its }:=I3.pins_of fun p hp=>by
           rcases List.mem_append.mp hp with q | q
           · exact I3.pin p (List.mem_append_right _ q)
           · rw [List.mem_singleton.mp q];exact ⟨he1,fr 1,nl 1,I2.nofs (Nat.le_add_right _ _),fun v e=>by cases e⟩
         rw [zma]
         refine znr cal C hr.in1.in1 q3 (nl 3) (.inr (Nat.le_trans I2.sz (Nat.le_add_right _ _))) (ncell 3) (fun p hp=>?_) (I2.nofs (Nat.le_add_right _ _)) _ ds its vs kd [] [] [] 0 _ H2 ρ1 S1 S2 ((hE.mono E1).mono E2) hS2 rl rvs RepL.nil .nil na nc hA hC q4 I4 gks (fr 3) (by simp;omega) fun keysV keys m s5 H5 ρ5 E5 hS5 rk vk lk I5 gk nk=>?_
         · rw [← List.append_assoc] at hp
           rcases List.mem_append.mp hp with q | q
           · exact npin 3 p q
           · rw [List.mem_singleton.mp q];show s2.heap.objs.size + 1≠s2.heap.objs.size + 3;omega
         · obtain ⟨ga,na5,_⟩:=I5.pin (s2.heap.objs.size + 1,seqObj "list" #[] e1) (List.mem_append_right _ (List.mem_append_right _ (List.mem_singleton.mpr rfl)))
           rw [List.nil_append] at rk
           have lk:keys.length=its.length:=by simpa using lk
           unfold zus at q5
           split at q5
           · rename_i hc
             cases q5
             obtain ⟨hn4,hkn,hpw⟩:=hc
             obtain ⟨sh,em⟩:=shapes I5 hn4 rk vk hkn
             have hU:∀x:Keyed,x∈keys.zip its→zky s5.heap (kn kd) x.1 (valC s5.heap x.1):=fun x hx=>sh _ (List.of_mem_zip (a:=x.1) (b:=x.2) hx).1
             obtain ⟨kdd,hcmp,hkk⟩:=zux (prog:=X.prog) (w:=X.w) (A:=X.A.in1.in1) (E:=X.xe) (U:=fun x=>x∈keys.zip its) (kc:=fun x=>valC s5.heap x.1) hn4 hU
             have pwk:(keys.zip its).Pairwise (fun x y=>valC s5.heap x.1≠valC s5.heap y.1):=by
               rw [← em,List.pairwise_map] at hpw
               have:((keys.zip its).map (·.1)).Pairwise (fun a b=>valC s5.heap a≠valC s5.heap b):=by
                 rw [List.map_fst_zip (by omega)];exact hpw
               rw [List.pairwise_map] at this
               exact this
             refine ⟨keys,m,kdd,fun x=>x∈keys.zip its,fun x=>valC s5.heap x.1,gk,ga,lk,fun h2=>hkk keys (by omega) fun v hv=>⟨_,sh v hv⟩,hcmp,fun x hx=>hx,pwk,fun out ho hs _=>?_⟩
             have eo:=zox (c:=fun x:Keyed=>valC s5.heap x.1) ho hs pwk
             have m1:=zfk (c:=fun z:Value×Value×V×D=>valC s5.heap z.1) (c':=fun x:Keyed=>valC s5.heap x.1) (fun z=>(z.1,z.2.1)) (fun _=>rfl) (keys.zip (its.zip (vs.zip ds)))
             have m2:=zfk (c:=fun z:Value×Value×V×D=>valC s5.heap z.1) (c':=fun p:List Int×D=>p.1) (fun z=>(valC s5.heap z.1,z.2.2.2)) (fun _=>rfl) (keys.zip (its.zip (vs.zip ds)))
             rw [zip4a keys its vs ds lk l1.symm l2.symm] at m1
             rw [zip4b (valC s5.heap) keys its vs ds lk l1.symm l2.symm,em] at m2
             rw [m1] at eo
             have zr:∀z∈zcm (fun z:Value×Value×V×D=>valC s5.heap z.1) (keys.zip (its.zip (vs.zip ds))),RelV z.2.2.1 z.2.1∧Rep X.K X.mg ρ5 H5 z.2.2.2 z.2.2.1:=fun z hz =>
               zty (rl.mono E5) rvs z.2 (List.of_mem_zip (a:=z.1) (b:=z.2) ((zcq _).mem_iff.mp hz)).2
             have e2:out.map (·.2)=(zcm (fun z:Value×Value×V×D=>valC s5.heap z.1) (keys.zip (its.zip (vs.zip ds)))).map (fun z=>z.2.1):=by rw [eo,List.map_map];rfl
             have e3:(zcm (fun p:List Int×D=>p.1) ((kd.map keyC).zip ds)).map (·.2)=(zcm (fun z:Value×Value×V×D=>valC s5.heap z.1) (keys.zip (its.zip (vs.zip ds)))).map (fun z=>z.2.2.2):=by rw [m2,List.map_map];rfl
             have rvals:Vals ((zcm (fun z:Value×Value×V×D=>valC s5.heap z.1) (keys.zip (its.zip (vs.zip ds)))).map (fun z=>z.2.2.1)) (out.map (·.2)):=by rw [e2];exact zqj fun z hz=>(zr z hz).1
             have rreps:RepL X.K X.mg ρ5 H5 ((zcm (fun p:List Int×D=>p.1) ((kd.map keyC).zip ds)).map (·.2)) ((zcm (fun z:Value×Value×V×D=>valC s5.heap z.1) (keys.zip (its.zip (vs.zip ds)))).map (fun z=>z.2.2.1)):=by rw [e3];exact zqu fun z hz=>(zr z hz).2
             have lo:(out.map (·.2)).length=its.length:=by rw [List.length_map,ho.length_eq,List.length_zip,lk,Nat.min_self]
             have szl:((zcm (fun z:Value×Value×V×D=>valC s5.heap z.1) (keys.zip (its.zip (vs.zip ds)))).map (fun z=>z.2.2.1)).length≤sizeLine:=by
               rw [rvals.length,lo];omega
             have I6:=I5.turned (t':=s5.toks) (it:=s2.heap.objs.size + 3) (h':=s5.heap.update (s2.heap.objs.size + 3) (Obj.mapSeq fun _=>#[])) (fun b o nb e=>by rw [Heap.get?_update_ne _ _ _ _ nb];exact e) nk (nl 3) (.inr (Nat.le_trans I2.sz (Nat.le_add_right _ _))) (ncell 3) (fun p hp=>by
               rw [← List.append_assoc] at hp
               rcases List.mem_append.mp hp with q | q
               · exact npin 3 p q
               · rw [List.mem_singleton.mp q];show s2.heap.objs.size + 1≠s2.heap.objs.size + 3;omega)
             have ga6:(s5.heap.update (s2.heap.objs.size + 3) (Obj.mapSeq fun _=>#[])).get? (s2.heap.objs.size + 1)=some (seqObj "list" #[] e1):=by
               rw [Heap.get?_update_ne _ _ _ _ (Nat.ne_of_lt (Nat.add_lt_add_left (by decide) _))];exact ga
             have I7:=(Inv.unpinned I6).turned (t':=s5.toks) (it:=s2.heap.objs.size + 1) (h':=(s5.heap.update (s2.heap.objs.size + 3) (Obj.mapSeq fun _=>#[])).update (s2.heap.objs.size + 1) (Obj.mapSeq fun _=>(out.map (·.2)).toArray)) (fun b o nb e=>by rw [Heap.get?_update_ne _ _ _ _ nb];exact e) na5 (nl 1) (.inr (Nat.le_trans I2.sz (Nat.le_add_right _ _))) (ncell 1) (npin 1)
             have ga7:=get?_update_seq ga6 (fun _=>(out.map (·.2)).toArray)
             have I8:=Inv.track I7 na5 ga7 rvals szl (.inr (Nat.le_trans I2.sz (Nat.le_add_right _ _))) (nl 1) (ncell 1) (npin 1)
             exact ⟨.ref (s2.heap.objs.size + 1),_,I8,rfl,kk _ ρ5 _ (((E1.trans E2).trans E5).trans (zbv hS5 _ na5)) (hS5.new _ na5) (Rep.lst (s:=hS5) na5 rreps)⟩
           · cases q5
   · cases hf0
 · cases hf0
end
end F
namespace F
open PySem L2 PySem.Spec PySem.Calls PyProof.Rows PySem.W
def isInt:D→Bool
 | .int _=>true
 | _=>false
def zjo (kv:List D):Bool:=kv.all isInt
def CellI (h:Heap):List (Str×Addr)→List D→Prop
 | [],[]=>True
 | p::cl,d::kv=>(∃(o:Obj) (n:Int) (tk:Tok),d=.int n∧h.get? p.2=some o∧o.data=.cell (some (.int n tk)))∧CellI h cl kv
 | _,_=>False
structure ForC (X:Cx) (t:LT) (cl:List (Str×Addr)) (kv:List D):Prop where
 names:cl.map (·.1)=t.caps
 nd:(cl.map (·.2)).Nodup
 vals:CellI X.s₀.heap cl kv
 hn:∀b∈cl.map (·.2),X.H₀ b=none
 nex:∀b∈cl.map (·.2),b∉X.ex
 nfs:∀b∈cl.map (·.2),b∉X.fs
 nst:∀b∈cl.map (·.2),b∉frs X.stack
 nb:∀b∈cl.map (·.2),X.base.get? b=none
theorem CellI.at_ {h:Heap}:∀{cl:List (Str×Addr)}{kv:List D},CellI h cl kv→∀b∈cl.map (·.2),∃o n tk,h.get? b=some o∧o.data=.cell (some (.int n tk))
 | [],[],_,b,hb=>by cases hb
 | p::cl,d::kv,q,b,hb=>by
   rw [List.map_cons] at hb
   rcases List.mem_cons.mp hb with rfl | hb
   · obtain ⟨⟨o,n,tk,_,h1,h2⟩,_⟩:=q
     exact ⟨o,n,tk,h1,h2⟩
   · exact CellI.at_ q.2 b hb
 | [],_::_,q,_,_=>q.elim
 | _::_,[],q,_,_=>q.elim
section
variable {X:Cx}{pins:List (Addr×Obj)}{σ:L2.St}{H:Hp}{s:Shared}{t:LT}{cl:List (Str×Addr)}{is:List Nat}{kv:List D}{ρ:List Addr}{ev:Ev}{S:Sto}
theorem zse (C:CapsOk X t cl is) (I:Inv X pins σ H s) (hE:EnvR X.K X.mg ρ H ev σ) :
   ∀(cl':List (Str×Addr)) (js:List Nat) (vs:List D),(∀p∈cl',p∈cl)→js.map (fun i=>X.N[i]?)=cl'.map (fun p=>some p.1)→zfr ev js=some vs→zjo vs=true→CellI s.heap cl' vs
 | [],[],vs,_,_,h,_=>by cases h;trivial
 | [],_::_,_,_,e,_,_=>by cases e
 | _::_,[],_,_,e,_,_=>by cases e
 | p::cl',i::js,vs,hm,e,h,hi=>by
   rw [List.map_cons,List.map_cons] at e
   obtain ⟨e1,e2⟩:=List.cons.inj e
   unfold zfr at h
   split at h
   · rename_i d hd
     obtain ⟨vs',hv,h⟩:=mapS h
     subst h
     unfold zjo at hi
     rw [List.all_cons,Bool.and_eq_true] at hi
     obtain ⟨v,hσ,rd⟩:=hE.at_ i d hd
     obtain ⟨m,hns,hl⟩:=I.loc
     have hp:=hm p List.mem_cons_self
     have hpm:p.1∈t.caps:=C.names ▸ List.mem_map_of_mem hp
     have kd:=C.kind _ hpm
     obtain ⟨u,ru,lk⟩:=hl i p.1 v e1 hσ (.inr (.inl kd))
     refine ⟨?_,zse C I hE cl' js vs' (fun q hq=>hm q (List.mem_cons_of_mem _ hq)) e2 hv hi.2⟩
     rcases lk with ⟨k1,_⟩ | ⟨_,c,z1,o,z2,z3⟩
     · have:X.env.scope.names.lookup p.1=some .local:=k1
       rw [kd] at this;cases this
     · rw [C.look p hp] at z1
       cases z1
       cases d with
       | int n =>
         unfold Rep at rd;subst rd
         obtain ⟨tk,rfl⟩:=ru
         exact ⟨o,n,tk,rfl,z2,z3⟩
       | _=>exact absurd hi.1 Bool.false_ne_true
   · cases h
theorem forC_of {scope:Scope}{x:Str}{N':List Str}{C:Addr}{fp:List Addr} (CO:CapsOk X t cl is) (hint:zjo kv=true) (I:Inv X pins σ H s) (hE:EnvR X.K X.mg ρ H ev σ) (hkv:zfr ev is=some kv) (f2:∀b∈fp,FpOk X pins H b):ForC (zdm X (x::N') scope s H C fp) t cl kv :=
 ⟨CO.names,CO.nodup I,zse CO I hE cl is kv (fun _ h=>h) (by rw [CO.at_,← CO.names,List.map_map];rfl) hkv hint,CO.hn I,fun b hb z=>by
   obtain ⟨p,hp,rfl⟩:=List.mem_map.mp hb
   exact (f2 _ z).2.2.2.2.1 p.1 p.2 (CO.look p hp) rfl,CO.nst I,CO.nst I,CO.nb I⟩
theorem zoh {h:Heap}:∀{cl:List (Str×Addr)}{kv:List D}{cl0:List (Str×Addr)},CellI h cl kv→(∀p∈cl,p∈cl0)→(∀b∈cl0.map (·.2),H b=none)→StOk X.K X.mg ρ H S→∃us,Cells ρ (trk H h cl0) (cl.map (·.1)) us cl∧RepL X.K X.mg ρ H kv us
 | [],[],_,_,_,_,_=>⟨[],trivial,RepL.nil⟩
 | p::cl,d::kv,cl0,q,hm,hn,hS=>by
   obtain ⟨⟨o,n,tk,rfl,h1,h2⟩,q2⟩:=q
   obtain ⟨us,c1,r1⟩:=zoh q2 (fun z hz=>hm z (List.mem_cons_of_mem _ hz)) hn hS
   have hb:p.2∈cl0.map (·.2):=List.mem_map_of_mem (hm p List.mem_cons_self)
   exact ⟨.int n::us,⟨rfl,hS.fresh (hn _ hb),⟨o,.int n tk,by unfold trk;rw [zfs hb,h1];rfl,h2,⟨tk,rfl⟩⟩,c1⟩,RepL.cons rfl r1⟩
 | [],_::_,_,q,_,_,_=>q.elim
 | _::_,[],_,q,_,_,_=>q.elim
end
open Classical in
noncomputable def ztn (is:List Nat) (kv:List D) (f:E):E:=fun ev S=>if zfr ev is=some kv then f ev S else none
theorem ztm {is:List Nat}{kv:List D}{f:E}{ev:Ev}{S:Sto}{r:D×Sto} (h:ztn is kv f ev S=some r):zfr ev is=some kv∧f ev S=some r:=by
 unfold ztn at h
 split at h
 · rename_i e;exact ⟨e,h⟩
 · cases h
theorem eCapE_eq {is:List Nat}{kv:List D}{f:E}{ev:Ev}{S:Sto} (h:zfr ev is=some kv):ztn is kv f ev S=f ev S:=by
 unfold ztn;rw [if_pos h]
def eCapK (is:List Nat) (F:List D→E):E:=fun ev S=>(zfr ev is).bind fun kv=>if zjo kv=true then F kv ev S else none
section
variable {X:Cx}{is:List Nat}{F:List D→E}{e:Expr}{st:Stmt}{iy:Nat}
theorem fe_capK (h:∀kv,zjo kv=true→FE X e (ztn is kv (F kv))):FE X e (eCapK is F):=fun pins s σ H Q I h'=>by
 obtain ⟨ρ,ev,S,d,S',hE,hS,hf,k⟩:=h'
 obtain ⟨kv,q,hf⟩:=zaq hf
 split at hf
 · rename_i hi
   exact h kv hi pins s σ H Q I ⟨ρ,ev,S,d,S',hE,hS,by rw [eCapE_eq q];exact hf,k⟩
 · cases hf
end
open Classical in
noncomputable def zkr (g:G) (q:Nat) (t:LT) (cl:List (Str×Addr)) (kv:List D) (a:As):E:=fun ev S=>match ev[q]? with
 | some (some (.lam t'))=>if t'={ t with cl:=cl } then (a ev S).bind fun p=>if (noCL p.1 && noCL kv && noCS p.2)=true∧p.1.length=t.params.args.length then (g (p.1++kv) p.2).bind fun r=>if (noC r.1 && noCS r.2)=true then some r else none else none else none
 | _=>none
section
variable {X:Cx}{k q:Nat}{x:Str}{g:G}{a:As}{t:LT}{cl:List (Str×Addr)}{kv:List D}{e:Expr}{es:List Expr}{p pos:Pos}
theorem fe_callB (cal:CCal X.prog X.w X.K X.mg X.base k t g) (fc:ForC X t cl kv) (hr:Room k X.A) (hf:FE X (.Name x p) (eV q)) (ha:FA X (e::es) a)
   (ht:eval (.Call (.Name x p) (e::es) [] pos) X.env=(eval (.Name x p) X.env >>= fun v=>callWith pos v [] (backTo pos (starEach (e::es) X.env)) (backToKw pos (keywordEach [] X.env))):=by rfl)
   (he:starEach (e::es) X.env=(false,eval e X.env)::starEach es X.env:=by exact zay rfl) (hpl:(backTo pos (starEach es X.env)).any (·.1)=false:=by exact zca rfl) :
   FE X (.Call (.Name x p) (e::es) [] pos) (zkr g q t cl kv a):=by
 intro pins s σ H Q I h
 obtain ⟨ρ,ev,S,d,S',hE,hS,hf',kk⟩:=h
 unfold zkr at hf'
 split at hf'
 · rename_i t' hq
   split at hf'
   · rename_i htt
     subst htt
     obtain ⟨⟨ds,S2⟩,q2,hf'⟩:=zaq hf'
     dsimp only at hf'
     split at hf'
     · rename_i hno
       obtain ⟨hno,hlen⟩:=hno
       obtain ⟨⟨d1,S3⟩,q3,hf'⟩:=zaq hf'
       dsimp only at hf'
       split at hf'
       · rename_i hno'
         cases hf'
         rw [ht]
         refine wpAny_bind (thn (hf pins s σ H (fun v H1=>∃ρ1 a0,v=.ref a0∧Ext ρ H ρ1 H1∧StOk X.K X.mg ρ1 H1 S∧LamAt ρ1 H1 { t with cl:=cl } a0) I ⟨ρ,ev,S,.lam { t with cl:=cl },S,hE,hS,by simp [eV,hq],fun v ρ1 H1 E1 hS1 r1=>?_⟩) fun u s1 ⟨v,H1,I1,rv,ρ1,a0,ev1,E1,hS1,L1⟩=>?_)
         · unfold Rep at r1
           obtain ⟨b,rfl,L⟩:=r1
           exact ⟨ρ1,b,rfl,E1,hS1,L⟩
         · subst ev1
           obtain rfl:u=Value.ref a0:=rv
           obtain ⟨n0,c,pm,ct,nc,hA,hC⟩:=L1
           have hA:H1 a0=some (.ext (cloP t cl a0 c pm ct)):=hA
           have hC:H1 c=some (.ext (zeb c t.qual)):=hC
           have at_:∀{H':Hp}{s':Shared},Inv X pins σ H' s'→H' a0=some (.ext (cloP t cl a0 c pm ct))→FnAt a0 s'.heap:=fun J e=>⟨_,_,_,_,(J.hok a0 _ e).1⟩
           refine callWith_F (at_ I1 hA) (thn (ha pos pins s1 σ H1 (fun vs H2=>∃ρ2,Ext ρ1 H1 ρ2 H2∧StOk X.K X.mg ρ2 H2 S2∧RepL X.K X.mg ρ2 H2 ds vs) I1 ⟨ρ1,ev,S,ds,S2,hE.mono E1,hS1,q2,fun vs ρ2 H2 E2 hS2 r2=>⟨ρ2,E2,hS2,r2⟩⟩) fun us s2 ⟨vs,H2,I2,r,ρ2,E2,hS2,r2⟩=>⟨at_ I2 (E2.keep _ _ hA n0),?_⟩) he hpl
           have cb:∀b∈cl.map (·.2),∃o n tk,s2.heap.get? b=some o∧o.data=.cell (some (.int n tk))∧H2 b=none:=fun b hb=>by
             obtain ⟨o,n,tk,z1,z2⟩:=fc.vals.at_ b hb
             exact ⟨o,n,tk,I2.base.keep b o z1 (fc.hn b hb) (fc.nfs b hb) (fc.nex b hb),z2,I2.base.free b o z1 (fc.hn b hb) (fc.nex b hb)⟩
           have ci2:∀{cl':List (Str×Addr)}{kv':List D},(∀p∈cl',p∈cl)→CellI X.s₀.heap cl' kv'→CellI s2.heap cl' kv':=fun {cl'}=>by
             induction cl' with
             | nil =>
               intro kv' _ h
               cases kv' with
               | nil=>trivial
               | cons _ _=>exact h.elim
             | cons p cl' ih =>
               intro kv' hm h
               cases kv' with
               | nil=>exact h.elim
               | cons d kv' =>
                 obtain ⟨⟨o,n,tk,z0,z1,z2⟩,z3⟩:=h
                 have hb:p.2∈cl.map (·.2):=List.mem_map_of_mem (hm p List.mem_cons_self)
                 exact ⟨⟨o,n,tk,z0,I2.base.keep p.2 o z1 (fc.hn _ hb) (fc.nfs _ hb) (fc.nex _ hb),z2⟩,ih (fun z hz=>hm z (List.mem_cons_of_mem _ hz)) z3⟩
           have hn2:∀b∈cl.map (·.2),H2 b=none:=fun b hb=>let ⟨_,_,_,_,_,z⟩:=cb b hb;z
           obtain ⟨cs,hcs,rk⟩:=zoh (X:=X) (cl0:=cl) (ci2 (fun _ h=>h) fc.vals) (fun _ h=>h) hn2 hS2
           rw [fc.names] at hcs
           exact zsb (A:=X.A) cal hn2 (fun b hb=>let ⟨o,n,tk,z1,z2,_⟩:=cb b hb;⟨o,_,z1,z2⟩) fc.nd fc.nst fc.nb hcs rk hr (fun e=>e) I2 hS2 (E2.out hA n0) (E2.out hC nc) (E2.keep _ _ hA n0) (E2.keep _ _ hC nc) r2 r hlen hno q3 hno' fun v ρ' H' E' hS' r'=>kk v ρ' H' ((E1.trans E2).trans E') hS' r'
       · cases hf'
     · cases hf'
   · cases hf'
 · cases hf'
end
section
variable {X:Cx}{pins:List (Addr×Obj)}{σ:L2.St}{H:Hp}{s:Shared}{scope:Scope}{x:Str}{N':List Str}{fr:List Nat}
noncomputable def zko (fr:List Nat) (f:E) (c:B) (g:E):E:=fun ev S=>(f ev S).bind fun p=>match p.1 with
 | .obj a=>(match p.2[a]? with
   | some (.lst us)=>(zdl a us c g (fr.map (evAt ev)) us p.2).map fun q=>(.lst q.1,q.2)
   | _=>none)
 | _=>none
theorem zxb {t:LT}{cl:List (Str×Addr)}{is:List Nat}{kv:List D}{elt l:Expr}{ifs:List Expr}{px pos:Pos}{f g:E}{cn:B} (c:CompOk X scope x N' fr) (hl:FE X l f) (CO:CapsOk X t cl is) (hint:zjo kv=true) (hif:∀s₀ H₀ C ex,ForC (zdm X (x::N') scope s₀ H₀ C ex) t cl kv→FT (zdm X (x::N') scope s₀ H₀ C ex) ifs cn) (helt:∀s₀ H₀ C ex,FE (zdm X (x::N') scope s₀ H₀ C ex) elt g)
   (hc:X.calm=true:=by rfl) (hs:∀v,foldedSetIterable l X.env v=pure v:=by intro _;rfl) :
   FE X (.ListComp elt [⟨.Name x px,l,ifs,0⟩] scope pos) (ztn is kv (zhi fr f cn g)):=by
 intro pins s σ H Q I h
 obtain ⟨ρ,ev,S,d,S',hE,hS,hf,k⟩:=h
 obtain ⟨hkv,hf⟩:=ztm hf
 obtain ⟨⟨y,S1⟩,q1,hf⟩:=zaq hf
 cases y with
 | lst us =>
   · obtain ⟨⟨ds,S2⟩,q2,hf⟩:=mapS hf
     cases hf
     rw [eval_ListComp]
     refine wpAny_comprehension_free (use:=none) rfl hs (zdp fun p hp e=>I.ok.has p.1 (.inl ((c.chk p hp).2.1 e))) c.kind (fun y hy e=>(c.chk y hy).2.2 e) ?_
     refine thn (zlj (tg:=.Name x px) hl pins s σ H (fun J H1=>∃ρ1 p vs,J=Itl X.K p∧Ext ρ H ρ1 H1∧StOk X.K X.mg ρ1 H1 S1∧LstAt X.K ρ1 H1 p vs∧RepL X.K X.mg ρ1 H1 us vs) I ⟨ρ,ev,S,.lst us,S1,hE,hS,q1,fun v ρ1 H1 E1 hS1 r1=>?_⟩) fun v s1 h1=>thn h1 fun itv s2 h2=>?_
     · obtain ⟨p,vs,rfl,t1,rL⟩:=r1.refL
       exact ⟨p,rfl,⟨vs,t1.sq⟩,ρ1,p,vs,rfl,E1,hS1,t1,rL⟩
     obtain ⟨it,fp,tn,J,H2,e,I2,T,st2,f2,ρ1,p,vs,eJ,E1,hS1,t1,rL⟩:=h2
     subst e eJ
     have hlen:=rL.length
     obtain ⟨_,_,_,hz0⟩:=I2.list t1.sq
     have hE1:=hE.mono E1
     have hcell:∀y∈scope.names,y.2≠.cell:=fun y hy=>(c.chk y hy).1
     refine wpAny_newObj_type (wpAny_newFunctionEnv hcell (by intro y hy;simp at hy) (fun h₁ hns₁ hsb₁=>?_) c.kind)
     dsimp only at hns₁ hsb₁ ⊢
     generalize hH2:s2.heap.push { cls:=.type "list",dict:=none,data:=.seq ([]:List Value).toArray }=G2 at hns₁ hsb₁ ⊢
     have hC:G2.objs.size=s2.heap.objs.size + 1:=by rw [← hH2,Heap.size_push]
     have hDC:s2.heap.objs.size≠G2.objs.size:=by rw [hC];exact Nat.ne_of_lt (Nat.lt_succ_self _)
     have hCle:s2.heap.objs.size≤G2.objs.size:=by rw [hC];exact Nat.le_succ _
     have old:∀b o,s2.heap.get? b=some o→h₁.get? b=some o:=fun b o e=>hsb₁.extBut b o (by rw [hC];exact Nat.ne_of_lt (Nat.lt_succ_of_lt (Heap.lt_size e))) (Heap.get?_push_of_some _ (hH2 ▸ Heap.get?_push_of_some _ e))
     have hacc:h₁.PlainList s2.heap.objs.size #[]:=⟨_,hsb₁.extBut _ _ hDC (Heap.get?_push_of_some _ (hH2 ▸ Heap.get?_push_size _ rfl))⟩
     generalize hDl:s2.heap.objs.size=Dl at hDC hCle hacc
     generalize hCC:G2.objs.size=C at hDC hCle hns₁ hsb₁ hC ⊢
     have hfl:∀b∈fp,b < Dl:=fun b hb=>by
       obtain ⟨o,e,_⟩:=T.obj 0 _ st2 b hb
       rw [← hDl];exact Heap.lt_size e
     have hHD:H2 Dl=none:=I2.hok.fresh (by rw [hDl];exact Nat.le_refl _)
     have hDfs:Dl∉frs X.stack:=fun z=>by
       have z':=I2.stkFree Dl z
       rcases List.mem_cons.mp (I2.stkSub Dl z) with e | e
       · have:=I2.lt
         rw [hDl,← e] at this
         exact Nat.lt_irrefl _ this
       · exact I2.nofs (by rw [hDl];exact Nat.le_refl _) e
     generalize hX':zdm X (x::N') scope s2 H2 C fp=X'
     have I3:Inv X' [] (none::fr.map (svAt σ)) H2 { s2 with heap:=h₁,toks:=s2.toks + ([]:List (Str×Value)).length }:=hX' ▸ c.start I2 f2 (by rw [hDl];exact hfl) (by rw [hDl];exact hCle) old hns₁
     have hEf:EnvR X.K X.mg ρ1 H2 (none::fr.map (evAt ev)) (none::fr.map (svAt σ)):=by
       refine ⟨by simp,fun i d q=>?_⟩
       cases i with
       | zero=>simp at q
       | succ i =>
         have q:(fr.map (evAt ev))[i]? = some (some d):=by simpa using q
         rw [List.getElem?_map] at q
         cases ej:fr[i]? with
         | none=>rw [ej] at q;cases q
         | some jj =>
           rw [ej] at q
           have q:evAt ev jj=some d:=by simpa using q
           have hv:ev[jj]? = some (some d):=by
             unfold evAt at q
             split at q
             · rename_i o ho
               rw [ho,q]
             · cases q
           obtain ⟨v,e1,r⟩:=hE1.at_ jj d hv
           refine ⟨v,?_,r⟩
           show (fr.map (svAt σ))[i]? = some (some v)
           rw [List.getElem?_map,ej]
           show some (svAt σ jj)=_
           unfold svAt
           rw [e1]
     have eA:X'.A=X.A:=by rw [← hX'];rfl
     have eP:X'.prog=X.prog:=by rw [← hX'];rfl
     have eW:X'.w=X.w:=by rw [← hX'];rfl
     have eK:X'.K=X.K:=by rw [← hX'];rfl
     have eM:X'.mg=X.mg:=by rw [← hX'];rfl
     have eEx:X'.ex=fp:=by rw [← hX'];rfl
     have eS0:X'.s₀=s2:=by rw [← hX'];rfl
     have eH0:X'.H₀=H2:=by rw [← hX'];rfl
     have eFs:X'.fs=frs X.stack:=by rw [← hX'];rfl
     have eL:X'.env.locals=C:=by rw [← hX'];rfl
     have ePn:X'.pn=[]:=by rw [← hX'];rfl
     have eEnv:X'.env=compEnvC scope (clOf X.env.cells scope.names []) C X.env:=by rw [← hX'];rfl
     have eCalm:X'.calm=true:=by rw [← hX'];exact hc
     have eXe:X'.xe=fun _ _=>False:=by rw [← hX'];rfl
     have pgx:PG X' (.Name x px) (znt 0):=by
       rw [← hX']
       exact zgz c.nd rfl (.inl (lookup_relabel_local c.hx)) (.inr (lookup_relabel_local c.hx))
     have fel:FE X' elt g:=hX' ▸ helt s2 H2 C fp
     have ftl:FT X' ifs cn:=hX' ▸ hif s2 H2 C fp (forC_of CO hint I2 hE1 hkv f2)
     have cellLt:∀y a,X'.env.cells.lookup y=some a→a < Dl:=fun y a e=>by
       rw [eEnv] at e
       obtain ⟨v,q⟩:=I2.cell y a (zdg (fun _ _ h=>by cases h) y a e)
       rw [← hDl];exact q.lt
     have stat:∀{H':Hp}{pl:List (Addr×Obj)},(∀b∈fp,H' b=none)→(∀p∈pl,∀b∈fp,p.1≠b)→∀b∈fp,FpOk X' pl H' b:=fun {H' pl} hn hp b hb =>
       ⟨hn b hb,by rw [eL];exact Nat.ne_of_lt (Nat.lt_of_lt_of_le (hfl b hb) hCle),by rw [eFs];intro z;rcases List.mem_cons.mp (I2.stkSub b z) with e | e;exact (f2 b hb).2.1 e;exact (f2 b hb).2.2.1 e,.inl (by rw [eEx];exact hb),fun y a e=>by
         rw [eEnv] at e
         exact (f2 b hb).2.2.2.2.1 y a (zdg (fun _ _ h=>by cases h) y a e),fun p hpp=>hp p (by rw [ePn] at hpp;simpa using hpp) b hb⟩
     have loop:∀s₃:Shared,s₃={ s2 with heap:=h₁,toks:=s2.toks + ([]:List (Str×Value)).length } →
         codeAny (model X.prog X.w) X.A (.compLoop (.ListComp elt [⟨.Name x px,l,ifs,0⟩] scope pos) 0 (.ref it) (.ref Dl) (compEnvC scope (clOf X.env.cells scope.names []) C X.env))
           (compPost (model X.prog X.w) X.A X.xe none (EP X pins σ Q) (.ref Dl) C) s₃:=by
       rintro s₃ rfl
       refine codeAny_compLoop_tests (CompIL X X' cn g (fr.map (evAt ev)) (fr.map (svAt σ)) fp tn Dl us ρ1 H2 ds S2) ?_ (us.length - 0)
         ⟨0,ρ1,H2,[],[],[],ds,S1,none,rfl,Nat.zero_le _,I3,T.keep _ _ _ st2 (fun b hb o e=>old b o e),fun b hb=>(f2 b hb).1,hHD,hacc,.nil,Ext.refl _ _,hS1,RepL.nil,Nat.le_refl _,q2,rfl⟩
       intro m st hI
       generalize notedBy (model X.prog X.w) X.A (compEnvC scope (clOf X.env.cells scope.names []) C X.env) (fun e s'=>compPost (model X.prog X.w) X.A X.xe none (EP X pins σ Q) (.ref Dl) C (.error e) s')=EE
       obtain ⟨i,ρ',H',ys,its,acc,rest,Si,w,rfl,hi,I',tni,hfp',hD',⟨nn,hpl⟩,rv,E',hSi,ra,hal,hcl,hds⟩:=hI
       have Ip:Inv X' [(Dl,{ cls:=.type "list",data:=.seq (List.toArray its) nn })] (w::fr.map (svAt σ)) H' st:=I'.pins_of fun p hp=>by
         rw [List.mem_singleton.mp hp]
         exact ⟨hpl,hD',by rw [eL];exact hDC,by rw [eFs];exact hDfs,fun v z=>by cases z⟩
       have hnp:∀p∈[(Dl,({ cls:=.type "list",data:=.seq (List.toArray its) nn }:Obj))],∀b∈fp,p.1≠b:=fun p hp b hb=>by
         rw [List.mem_singleton.mp hp]
         exact Ne.symm (Nat.ne_of_lt (hfl b hb))
       by_cases hlt:i < us.length
       · rw [List.drop_eq_getElem_cons hlt] at hcl
         obtain ⟨⟨ok,Sc⟩,qc,hcl⟩:=zaq hcl
         obtain ⟨xv0,ex0,rx0⟩:=(rL.mono E').get (List.getElem?_eq_getElem hlt)
         have ti:=T.item X' eP eW eK eCalm i [(Dl,{ cls:=.type "list",data:=.seq (List.toArray its) nn })] st (w::fr.map (svAt σ)) H' EE Ip (stat hfp' hnp) tni ⟨vs,xv0,(t1.mono E').sq,ex0⟩
         rw [eA] at ti
         refine thn ti fun r s4 ⟨u,hr,h4⟩=>?_
         subst hr
         dsimp only
         show wpAny (model X.prog X.w) X.A (letOwnedTupleGo (.Name x px) (.ref it) u >>= fun _=>assign (.Name x px) (compEnvC scope (clOf X.env.cells scope.names []) C X.env) u) _ _ _
         refine wpAny_bind (thn h4 fun _ s5 ⟨xv,H5,I5,r5,y5,tn5,fp5⟩=>?_)
         obtain ⟨eH5,exv⟩:=y5
         subst eH5
         have exv:=exv vs ((t1.mono E').sq)
         rw [ex0] at exv
         cases exv
         have I5':=I5.pinned (stat fp5 hnp) (T.obj _ _ tn5)
         have as5:=pgx _ s5 _ H5 _ u (fun σ' H'=>H'=H5∧σ'=(w::fr.map (svAt σ)).set 0 (some xv0)) I5' r5 ⟨rfl,rfl⟩
         rw [eP,eW,eA,eEnv,eXe] at as5
         refine wpAny_mono as5 (fun _ s6 ⟨σ6,H6,I6,eH6,eσ6⟩=>?_) (fun _ _ z=>False.elim z)
         subst eH6 eσ6
         have hE6:EnvR X.K X.mg ρ' H6 (some us[i]::fr.map (evAt ev)) (some xv0::fr.map (svAt σ)):=(hEf.mono E').set (i:=0) rx0
         have tc6:=zwq ftl (Q:=fun b H7=>b=ok∧∃ρ7,Ext ρ' H6 ρ7 H7∧StOk X.K X.mg ρ7 H7 Sc) I6 ⟨ρ',_,Si,ok,Sc,by rw [eK,eM];exact hE6,by rw [eK,eM];exact hSi,qc,fun ρ7 H7 E7 hS7=>⟨rfl,ρ7,E7,by rw [eK,eM] at hS7;exact hS7⟩⟩
         rw [eP,eW,eA,eEnv,eXe] at tc6
         refine wpAny_mono tc6 (fun ok' s6 ⟨H6,I6,eok,ρ6,E6,hS6⟩=>?_) (fun _ _ z=>False.elim z)
         subst eok
         have hE6:=hE6.mono E6
         have hpin6:=I6.pin (Dl,{ cls:=.type "list",data:=.seq (List.toArray its) nn }) (List.mem_append_right _ (List.mem_append_left _ (List.mem_singleton.mpr rfl)))
         cases ok' with
         | false =>
           have hcl:zjf cn g (fr.map (evAt ev)) (us.drop (i + 1)) Sc=some (rest,S2):=hcl
           rw [if_neg Bool.false_ne_true]
           have I8:Inv X' [] (some xv0::fr.map (svAt σ)) H6 s6:=I6.pins_of fun p hp=>by cases hp
           have tn8:tn (i + 1) s6.heap:=T.keep _ _ _ tn5 fun b hb o e=>(I6.pin (b,o) (List.mem_append_right _ (List.mem_append_right _ (zbg hb e)))).1
           refine ⟨us.length - (i + 1),by omega,i + 1,ρ6,H6,ys,its,acc,rest,Sc,_,rfl,by omega,I8,tn8,fun b hb=>?_,hpin6.2.1,⟨nn,hpin6.1⟩,rv,E'.trans E6,hS6,ra.mono E6,by omega,hcl,hds⟩
           obtain ⟨o,e,dd⟩:=T.obj _ _ tn5 b hb
           exact (I6.pin (b,o) (List.mem_append_right _ (List.mem_append_right _ (zbg hb e)))).2.1
         | true =>
           rw [if_pos rfl]
           have hcl:(g (some us[i]::fr.map (evAt ev)) Sc).bind (fun q=>(zjf cn g (fr.map (evAt ev)) (us.drop (i + 1)) q.2).bind fun r=>some (q.1::r.1,r.2))=some (rest,S2):=hcl
           obtain ⟨⟨yv,Sn⟩,qe,hcl⟩:=zaq hcl
           obtain ⟨⟨rest',Se⟩,qr,hcl⟩:=zaq hcl
           cases hcl
           have el6:=fel _ s6 _ H6 (fun v H7=>∃ρ7,Ext ρ6 H6 ρ7 H7∧StOk X.K X.mg ρ7 H7 Sn∧Rep X.K X.mg ρ7 H7 yv v) I6 ⟨ρ6,_,Sc,yv,Sn,by rw [eK,eM];exact hE6,by rw [eK,eM];exact hS6,qe,fun v ρ7 H7 E7 hS7 r7=>⟨ρ7,E7,by rw [eK,eM] at hS7;exact hS7,by rw [eK,eM] at r7;exact r7⟩⟩
           rw [eP,eW,eA,eEnv,eXe] at el6
           refine wpAny_mono el6 (fun u7 s7 ⟨v7,H7,I7,r7,ρ7,E7,hS7,rp7⟩=>?_) (fun _ _ z=>False.elim z)
           have hpin:=I7.pin (Dl,{ cls:=.type "list",data:=.seq (List.toArray its) nn }) (List.mem_append_right _ (List.mem_append_left _ (List.mem_singleton.mpr rfl)))
           have hvl:=rv.length
           have hral:=ra.length
           refine wpAny_list_append_plain ⟨nn,hpin.1⟩ (fun h8 hp8 hsb8=>?_) (by rw [List.size_toArray];omega)
           have I8:Inv X' [] (some xv0::fr.map (svAt σ)) H7 { s7 with heap:=h8 }:=by
             have I7':Inv X' [] (some xv0::fr.map (svAt σ)) H7 s7:=I7.pins_of fun p hp=>by cases hp
             exact I7'.turned (it:=Dl) (t':=s7.toks) (fun b o hb e=>(hsb8.2 b hb).trans e) hpin.2.1 (by rw [eL];exact hDC) (.inr (by rw [eS0,hDl];exact Nat.le_refl _)) (fun y a e=>Nat.ne_of_lt (cellLt y a e)) (fun p hp=>by rw [ePn] at hp;cases hp)
           have tn8:tn (i + 1) h8:=T.keep _ _ _ tn5 fun b hb o e=>by
             have:=(I7.pin (b,o) (List.mem_append_right _ (List.mem_append_right _ (zbg hb e)))).1
             exact (hsb8.2 b (Nat.ne_of_lt (hfl b hb))).trans this
           refine ⟨us.length - (i + 1),by omega,i + 1,ρ7,H7,ys++[v7],its++[u7],acc++[yv],rest',Sn,_,rfl,by omega,I8,tn8,fun b hb=>?_,hpin.2.1,?_,rv.append (.cons r7 .nil),(E'.trans E6).trans E7,hS7,((ra.mono E6).mono E7).append (RepL.cons rp7 RepL.nil),by simp;omega,qr,by simp [hds]⟩
           · obtain ⟨o,e,dd⟩:=T.obj _ _ tn5 b hb
             exact (I7.pin (b,o) (List.mem_append_right _ (List.mem_append_right _ (zbg hb e)))).2.1
           · rw [show (its++[u7]).toArray=its.toArray.push u7 by simp]
             exact hp8
       · have ei:i=us.length:=by omega
         have td:=T.done X' eP eW eK eCalm i [(Dl,{ cls:=.type "list",data:=.seq (List.toArray its) nn })] st (w::fr.map (svAt σ)) H' EE Ip (stat hfp' hnp) tni ⟨vs,(t1.mono E').sq,by omega⟩
         rw [eA] at td
         refine thn td fun r s4 ⟨hr,I4⟩=>?_
         subst hr
         dsimp only
         rw [List.drop_eq_nil_of_le (by omega)] at hcl
         cases hcl
         rw [List.append_nil] at hds
         subst hds
         obtain ⟨mm,hns,_⟩:=id I4.loc
         rw [eL] at hns
         refine ⟨mm,hns,fun h' hs'=>?_⟩
         have hpin:=I4.pin (Dl,{ cls:=.type "list",data:=.seq (List.toArray its) nn }) (List.mem_append_right _ (List.mem_singleton.mpr rfl))
         have hHC:H' C=none:=by
           have:=I4.free
           rw [eL] at this
           exact this
         have bs:=I4.base
         rw [eFs,eEx,eH0,eS0] at bs
         have nC:∀b o,s2.heap.get? b=some o→b≠C:=fun b o e z=>by
           have:=Heap.lt_size e
           rw [hDl,z] at this
           exact Nat.lt_irrefl _ (Nat.lt_of_lt_of_le this hCle)
         have un:Un (frs X.stack) fp H2 H' s2.heap h' :=
           ⟨fun b o e n h1 h2=>(hs'.2 b (nC b o e)).trans (bs.keep b o e n h1 h2),fun b o e n h1 h2=>by
             obtain ⟨sl,q⟩:=bs.slot b o e n h1 h2
             exact ⟨sl,(hs'.2 b (nC b o e)).trans q⟩,bs.free,fun b o e h2=>by
             obtain ⟨o',q⟩:=bs.there b o e h2
             exact ⟨o',(hs'.2 b (nC b o e)).trans q⟩,bs.tups,bs.frzs,bs.tbls⟩
         have hok4:=I4.hok
         rw [eP,eW] at hok4
         have os4:=I4.os
         rw [eS0] at os4
         have I9:Inv X pins σ H' { s4 with heap:=h' }:=I2.call' (s':={ s4 with heap:=h' }) os4 un (zej hok4 hs' hHC) I4.bare fun b hb=>by
           obtain ⟨_,a1,a2,a3,a4,a5⟩:=f2 b hb
           exact ⟨a3,a1,a4,a5⟩
         have hvl:=rv.length
         have hral:=ra.length
         have hDl2:s2.heap.objs.size≤Dl:=by rw [hDl];exact Nat.le_refl _
         have I10:Inv X pins σ (upd H' Dl (.lst ys)) { s4 with heap:=h' }:=Inv.track (its:=its) (n:=nn) I9 hD' ((hs'.2 Dl hDC).trans hpin.1) rv (by omega) (.inr (Nat.le_trans I2.sz hDl2)) (Ne.symm (Nat.ne_of_lt (Nat.lt_of_lt_of_le I2.lt hDl2)))
           (fun y a e=>by
             obtain ⟨v,q⟩:=I2.cell y a e
             exact Nat.ne_of_lt (Nat.lt_of_lt_of_le q.lt hDl2)) (fun q hq z=>by
             have:=Heap.lt_size (I2.pin q hq).1
             rw [hDl,z] at this
             exact Nat.lt_irrefl _ this)
         refine ⟨.ref Dl,upd H' Dl (.lst ys),I10,rfl,?_⟩
         exact k _ ρ' _ (E1.trans (E'.trans (zbv hSi _ hD'))) (hSi.new _ hD') (Rep.lst (s:=hSi) hD' ra)
     exact codeAny_compStart_list (loop _ rfl) (T.self X.A 0 _ _ _ (T.keep _ _ _ st2 (fun b hb o e=>old b o e)) (loop _ rfl))
 | _=>cases hf
theorem fe_compO {elt l:Expr}{ifs:List Expr}{px pos:Pos}{f g:E}{cn:B} (c:CompOk X scope x N' fr) (hl:FE X l f) (hif:∀s₀ H₀ C ex,FT (zdm X (x::N') scope s₀ H₀ C ex) ifs cn) (helt:∀s₀ H₀ C ex,FE (zdm X (x::N') scope s₀ H₀ C ex) elt g)
   (hc:X.calm=true:=by rfl) (hs:∀v,foldedSetIterable l X.env v=pure v:=by intro _;rfl) :
   FE X (.ListComp elt [⟨.Name x px,l,ifs,0⟩] scope pos) (zko fr f cn g):=by
 intro pins s σ H Q I h
 obtain ⟨ρ,ev,S,d,S',hE,hS,hf,k⟩:=h
 obtain ⟨⟨y,S1⟩,q1,hf⟩:=zaq hf
 cases y with
 | obj a0 =>
   dsimp only at hf
   split at hf
   · rename_i us hau
     obtain ⟨⟨ds,S2⟩,q2,hf⟩:=mapS hf
     cases hf
     rw [eval_ListComp]
     refine wpAny_comprehension_free (use:=none) rfl hs (zdp fun p hp e=>I.ok.has p.1 (.inl ((c.chk p hp).2.1 e))) c.kind (fun y hy e=>(c.chk y hy).2.2 e) ?_
     refine thn (zlj (tg:=.Name x px) hl pins s σ H (fun J H1=>∃ρ1 p,J=Itl X.K p∧Ext ρ H ρ1 H1∧StOk X.K X.mg ρ1 H1 S1∧ρ1[a0]? = some p) I ⟨ρ,ev,S,.obj a0,S1,hE,hS,q1,fun v ρ1 H1 E1 hS1 r1=>?_⟩) fun v s1 h1=>thn h1 fun itv s2 h2=>?_
     · unfold Rep at r1
       obtain ⟨p,rfl,hp⟩:=r1
       obtain ⟨vs,h1,r⟩:=hS1.ob _ _ p hau hp
       exact ⟨p,rfl,⟨vs,SqL.of h1⟩,ρ1,p,rfl,E1,hS1,hp⟩
     obtain ⟨it,fp,tn,J,H2,e,I2,T,st2,f2,ρ1,p,eJ,E1,hS1,hp⟩:=h2
     subst e eJ
     obtain ⟨vs,hv0,rL⟩:=hS1.ob _ _ p hau hp
     have hlen:=rL.length
     obtain ⟨_,_,_,hz0⟩:=I2.list (SqL.of hv0)
     have hE1:=hE.mono E1
     have hcell:∀y∈scope.names,y.2≠.cell:=fun y hy=>(c.chk y hy).1
     refine wpAny_newObj_type (wpAny_newFunctionEnv hcell (by intro y hy;simp at hy) (fun h₁ hns₁ hsb₁=>?_) c.kind)
     dsimp only at hns₁ hsb₁ ⊢
     generalize hH2:s2.heap.push { cls:=.type "list",dict:=none,data:=.seq ([]:List Value).toArray }=G2 at hns₁ hsb₁ ⊢
     have hC:G2.objs.size=s2.heap.objs.size + 1:=by rw [← hH2,Heap.size_push]
     have hDC:s2.heap.objs.size≠G2.objs.size:=by rw [hC];exact Nat.ne_of_lt (Nat.lt_succ_self _)
     have hCle:s2.heap.objs.size≤G2.objs.size:=by rw [hC];exact Nat.le_succ _
     have old:∀b o,s2.heap.get? b=some o→h₁.get? b=some o:=fun b o e=>hsb₁.extBut b o (by rw [hC];exact Nat.ne_of_lt (Nat.lt_succ_of_lt (Heap.lt_size e))) (Heap.get?_push_of_some _ (hH2 ▸ Heap.get?_push_of_some _ e))
     have hacc:h₁.PlainList s2.heap.objs.size #[]:=⟨_,hsb₁.extBut _ _ hDC (Heap.get?_push_of_some _ (hH2 ▸ Heap.get?_push_size _ rfl))⟩
     generalize hDl:s2.heap.objs.size=Dl at hDC hCle hacc
     generalize hCC:G2.objs.size=C at hDC hCle hns₁ hsb₁ hC ⊢
     have hfl:∀b∈fp,b < Dl:=fun b hb=>by
       obtain ⟨o,e,_⟩:=T.obj 0 _ st2 b hb
       rw [← hDl];exact Heap.lt_size e
     have hHD:H2 Dl=none:=I2.hok.fresh (by rw [hDl];exact Nat.le_refl _)
     have hDfs:Dl∉frs X.stack:=fun z=>by
       have z':=I2.stkFree Dl z
       rcases List.mem_cons.mp (I2.stkSub Dl z) with e | e
       · have:=I2.lt
         rw [hDl,← e] at this
         exact Nat.lt_irrefl _ this
       · exact I2.nofs (by rw [hDl];exact Nat.le_refl _) e
     generalize hX':zdm X (x::N') scope s2 H2 C fp=X'
     have I3:Inv X' [] (none::fr.map (svAt σ)) H2 { s2 with heap:=h₁,toks:=s2.toks + ([]:List (Str×Value)).length }:=hX' ▸ c.start I2 f2 (by rw [hDl];exact hfl) (by rw [hDl];exact hCle) old hns₁
     have hEf:EnvR X.K X.mg ρ1 H2 (none::fr.map (evAt ev)) (none::fr.map (svAt σ)):=by
       refine ⟨by simp,fun i d q=>?_⟩
       cases i with
       | zero=>simp at q
       | succ i =>
         have q:(fr.map (evAt ev))[i]? = some (some d):=by simpa using q
         rw [List.getElem?_map] at q
         cases ej:fr[i]? with
         | none=>rw [ej] at q;cases q
         | some jj =>
           rw [ej] at q
           have q:evAt ev jj=some d:=by simpa using q
           have hv:ev[jj]? = some (some d):=by
             unfold evAt at q
             split at q
             · rename_i o ho
               rw [ho,q]
             · cases q
           obtain ⟨v,e1,r⟩:=hE1.at_ jj d hv
           refine ⟨v,?_,r⟩
           show (fr.map (svAt σ))[i]? = some (some v)
           rw [List.getElem?_map,ej]
           show some (svAt σ jj)=_
           unfold svAt
           rw [e1]
     have eA:X'.A=X.A:=by rw [← hX'];rfl
     have eP:X'.prog=X.prog:=by rw [← hX'];rfl
     have eW:X'.w=X.w:=by rw [← hX'];rfl
     have eK:X'.K=X.K:=by rw [← hX'];rfl
     have eM:X'.mg=X.mg:=by rw [← hX'];rfl
     have eEx:X'.ex=fp:=by rw [← hX'];rfl
     have eS0:X'.s₀=s2:=by rw [← hX'];rfl
     have eH0:X'.H₀=H2:=by rw [← hX'];rfl
     have eFs:X'.fs=frs X.stack:=by rw [← hX'];rfl
     have eL:X'.env.locals=C:=by rw [← hX'];rfl
     have ePn:X'.pn=[]:=by rw [← hX'];rfl
     have eEnv:X'.env=compEnvC scope (clOf X.env.cells scope.names []) C X.env:=by rw [← hX'];rfl
     have eCalm:X'.calm=true:=by rw [← hX'];exact hc
     have eXe:X'.xe=fun _ _=>False:=by rw [← hX'];rfl
     have pgx:PG X' (.Name x px) (znt 0):=by
       rw [← hX']
       exact zgz c.nd rfl (.inl (lookup_relabel_local c.hx)) (.inr (lookup_relabel_local c.hx))
     have fel:FE X' elt g:=hX' ▸ helt s2 H2 C fp
     have ftl:FT X' ifs cn:=hX' ▸ hif s2 H2 C fp
     have cellLt:∀y a,X'.env.cells.lookup y=some a→a < Dl:=fun y a e=>by
       rw [eEnv] at e
       obtain ⟨v,q⟩:=I2.cell y a (zdg (fun _ _ h=>by cases h) y a e)
       rw [← hDl];exact q.lt
     have stat:∀{H':Hp}{pl:List (Addr×Obj)},(∀b∈fp,H' b=none)→(∀p∈pl,∀b∈fp,p.1≠b)→∀b∈fp,FpOk X' pl H' b:=fun {H' pl} hn hp b hb =>
       ⟨hn b hb,by rw [eL];exact Nat.ne_of_lt (Nat.lt_of_lt_of_le (hfl b hb) hCle),by rw [eFs];intro z;rcases List.mem_cons.mp (I2.stkSub b z) with e | e;exact (f2 b hb).2.1 e;exact (f2 b hb).2.2.1 e,.inl (by rw [eEx];exact hb),fun y a e=>by
         rw [eEnv] at e
         exact (f2 b hb).2.2.2.2.1 y a (zdg (fun _ _ h=>by cases h) y a e),fun p hpp=>hp p (by rw [ePn] at hpp;simpa using hpp) b hb⟩
     have loop:∀s₃:Shared,s₃={ s2 with heap:=h₁,toks:=s2.toks + ([]:List (Str×Value)).length } →
         codeAny (model X.prog X.w) X.A (.compLoop (.ListComp elt [⟨.Name x px,l,ifs,0⟩] scope pos) 0 (.ref it) (.ref Dl) (compEnvC scope (clOf X.env.cells scope.names []) C X.env))
           (compPost (model X.prog X.w) X.A X.xe none (EP X pins σ Q) (.ref Dl) C) s₃:=by
       rintro s₃ rfl
       refine codeAny_compLoop_tests (CompIO X X' a0 cn g (fr.map (evAt ev)) (fr.map (svAt σ)) fp tn Dl us ρ1 H2 ds S2) ?_ (us.length - 0)
         ⟨0,ρ1,H2,[],[],[],ds,S1,none,rfl,Nat.zero_le _,I3,T.keep _ _ _ st2 (fun b hb o e=>old b o e),fun b hb=>(f2 b hb).1,hHD,hacc,.nil,Ext.refl _ _,hS1,RepL.nil,Nat.le_refl _,q2,rfl⟩
       intro m st hI
       generalize notedBy (model X.prog X.w) X.A (compEnvC scope (clOf X.env.cells scope.names []) C X.env) (fun e s'=>compPost (model X.prog X.w) X.A X.xe none (EP X pins σ Q) (.ref Dl) C (.error e) s')=EE
       obtain ⟨i,ρ',H',ys,its,acc,rest,Si,w,rfl,hi,I',tni,hfp',hD',⟨nn,hpl⟩,rv,E',hSi,ra,hal,hcl,hds⟩:=hI
       have Ip:Inv X' [(Dl,{ cls:=.type "list",data:=.seq (List.toArray its) nn })] (w::fr.map (svAt σ)) H' st:=I'.pins_of fun p hp=>by
         rw [List.mem_singleton.mp hp]
         exact ⟨hpl,hD',by rw [eL];exact hDC,by rw [eFs];exact hDfs,fun v z=>by cases z⟩
       have hnp:∀p∈[(Dl,({ cls:=.type "list",data:=.seq (List.toArray its) nn }:Obj))],∀b∈fp,p.1≠b:=fun p hp b hb=>by
         rw [List.mem_singleton.mp hp]
         exact Ne.symm (Nat.ne_of_lt (hfl b hb))
       have hau':=compFO_at hcl
       obtain ⟨vs',hv',rL'⟩:=hSi.ob _ _ p hau' (E'.pre _ _ hp)
       have hlen':=rL'.length
       by_cases hlt:i < us.length
       · rw [List.drop_eq_getElem_cons hlt,zje hau'] at hcl
         obtain ⟨⟨ok,Sc⟩,qc,hcl⟩:=zaq hcl
         obtain ⟨xv0,ex0,rx0⟩:=rL'.get (List.getElem?_eq_getElem hlt)
         have ti:=T.item X' eP eW eK eCalm i [(Dl,{ cls:=.type "list",data:=.seq (List.toArray its) nn })] st (w::fr.map (svAt σ)) H' EE Ip (stat hfp' hnp) tni ⟨vs',xv0,SqL.of hv',ex0⟩
         rw [eA] at ti
         refine thn ti fun r s4 ⟨u,hr,h4⟩=>?_
         subst hr
         dsimp only
         show wpAny (model X.prog X.w) X.A (letOwnedTupleGo (.Name x px) (.ref it) u >>= fun _=>assign (.Name x px) (compEnvC scope (clOf X.env.cells scope.names []) C X.env) u) _ _ _
         refine wpAny_bind (thn h4 fun _ s5 ⟨xv,H5,I5,r5,y5,tn5,fp5⟩=>?_)
         obtain ⟨eH5,exv⟩:=y5
         subst eH5
         have exv:=exv vs' (SqL.of hv')
         rw [ex0] at exv
         cases exv
         have I5':=I5.pinned (stat fp5 hnp) (T.obj _ _ tn5)
         have as5:=pgx _ s5 _ H5 _ u (fun σ' H'=>H'=H5∧σ'=(w::fr.map (svAt σ)).set 0 (some xv0)) I5' r5 ⟨rfl,rfl⟩
         rw [eP,eW,eA,eEnv,eXe] at as5
         refine wpAny_mono as5 (fun _ s6 ⟨σ6,H6,I6,eH6,eσ6⟩=>?_) (fun _ _ z=>False.elim z)
         subst eH6 eσ6
         have hE6:EnvR X.K X.mg ρ' H6 (some us[i]::fr.map (evAt ev)) (some xv0::fr.map (svAt σ)):=(hEf.mono E').set (i:=0) rx0
         have tc6:=zwq ftl (Q:=fun b H7=>b=ok∧∃ρ7,Ext ρ' H6 ρ7 H7∧StOk X.K X.mg ρ7 H7 Sc) I6 ⟨ρ',_,Si,ok,Sc,by rw [eK,eM];exact hE6,by rw [eK,eM];exact hSi,qc,fun ρ7 H7 E7 hS7=>⟨rfl,ρ7,E7,by rw [eK,eM] at hS7;exact hS7⟩⟩
         rw [eP,eW,eA,eEnv,eXe] at tc6
         refine wpAny_mono tc6 (fun ok' s6 ⟨H6,I6,eok,ρ6,E6,hS6⟩=>?_) (fun _ _ z=>False.elim z)
         subst eok
         have hE6:=hE6.mono E6
         have hpin6:=I6.pin (Dl,{ cls:=.type "list",data:=.seq (List.toArray its) nn }) (List.mem_append_right _ (List.mem_append_left _ (List.mem_singleton.mpr rfl)))
         cases ok' with
         | false =>
           have hcl:zdl a0 us cn g (fr.map (evAt ev)) (us.drop (i + 1)) Sc=some (rest,S2):=hcl
           rw [if_neg Bool.false_ne_true]
           have I8:Inv X' [] (some xv0::fr.map (svAt σ)) H6 s6:=I6.pins_of fun p hp=>by cases hp
           have tn8:tn (i + 1) s6.heap:=T.keep _ _ _ tn5 fun b hb o e=>(I6.pin (b,o) (List.mem_append_right _ (List.mem_append_right _ (zbg hb e)))).1
           refine ⟨us.length - (i + 1),by omega,i + 1,ρ6,H6,ys,its,acc,rest,Sc,_,rfl,by omega,I8,tn8,fun b hb=>?_,hpin6.2.1,⟨nn,hpin6.1⟩,rv,E'.trans E6,hS6,ra.mono E6,by omega,hcl,hds⟩
           obtain ⟨o,e,dd⟩:=T.obj _ _ tn5 b hb
           exact (I6.pin (b,o) (List.mem_append_right _ (List.mem_append_right _ (zbg hb e)))).2.1
         | true =>
           rw [if_pos rfl]
           have hcl:(g (some us[i]::fr.map (evAt ev)) Sc).bind (fun q=>(zdl a0 us cn g (fr.map (evAt ev)) (us.drop (i + 1)) q.2).bind fun r=>some (q.1::r.1,r.2))=some (rest,S2):=hcl
           obtain ⟨⟨yv,Sn⟩,qe,hcl⟩:=zaq hcl
           obtain ⟨⟨rest',Se⟩,qr,hcl⟩:=zaq hcl
           cases hcl
           have el6:=fel _ s6 _ H6 (fun v H7=>∃ρ7,Ext ρ6 H6 ρ7 H7∧StOk X.K X.mg ρ7 H7 Sn∧Rep X.K X.mg ρ7 H7 yv v) I6 ⟨ρ6,_,Sc,yv,Sn,by rw [eK,eM];exact hE6,by rw [eK,eM];exact hS6,qe,fun v ρ7 H7 E7 hS7 r7=>⟨ρ7,E7,by rw [eK,eM] at hS7;exact hS7,by rw [eK,eM] at r7;exact r7⟩⟩
           rw [eP,eW,eA,eEnv,eXe] at el6
           refine wpAny_mono el6 (fun u7 s7 ⟨v7,H7,I7,r7,ρ7,E7,hS7,rp7⟩=>?_) (fun _ _ z=>False.elim z)
           have hpin:=I7.pin (Dl,{ cls:=.type "list",data:=.seq (List.toArray its) nn }) (List.mem_append_right _ (List.mem_append_left _ (List.mem_singleton.mpr rfl)))
           have hvl:=rv.length
           have hral:=ra.length
           refine wpAny_list_append_plain ⟨nn,hpin.1⟩ (fun h8 hp8 hsb8=>?_) (by rw [List.size_toArray];omega)
           have I8:Inv X' [] (some xv0::fr.map (svAt σ)) H7 { s7 with heap:=h8 }:=by
             have I7':Inv X' [] (some xv0::fr.map (svAt σ)) H7 s7:=I7.pins_of fun p hp=>by cases hp
             exact I7'.turned (it:=Dl) (t':=s7.toks) (fun b o hb e=>(hsb8.2 b hb).trans e) hpin.2.1 (by rw [eL];exact hDC) (.inr (by rw [eS0,hDl];exact Nat.le_refl _)) (fun y a e=>Nat.ne_of_lt (cellLt y a e)) (fun p hp=>by rw [ePn] at hp;cases hp)
           have tn8:tn (i + 1) h8:=T.keep _ _ _ tn5 fun b hb o e=>by
             have:=(I7.pin (b,o) (List.mem_append_right _ (List.mem_append_right _ (zbg hb e)))).1
             exact (hsb8.2 b (Nat.ne_of_lt (hfl b hb))).trans this
           refine ⟨us.length - (i + 1),by omega,i + 1,ρ7,H7,ys++[v7],its++[u7],acc++[yv],rest',Sn,_,rfl,by omega,I8,tn8,fun b hb=>?_,hpin.2.1,?_,rv.append (.cons r7 .nil),(E'.trans E6).trans E7,hS7,((ra.mono E6).mono E7).append (RepL.cons rp7 RepL.nil),by simp;omega,qr,by simp [hds]⟩
           · obtain ⟨o,e,dd⟩:=T.obj _ _ tn5 b hb
             exact (I7.pin (b,o) (List.mem_append_right _ (List.mem_append_right _ (zbg hb e)))).2.1
           · rw [show (its++[u7]).toArray=its.toArray.push u7 by simp]
             exact hp8
       · have ei:i=us.length:=by omega
         have td:=T.done X' eP eW eK eCalm i [(Dl,{ cls:=.type "list",data:=.seq (List.toArray its) nn })] st (w::fr.map (svAt σ)) H' EE Ip (stat hfp' hnp) tni ⟨vs',SqL.of hv',by omega⟩
         rw [eA] at td
         refine thn td fun r s4 ⟨hr,I4⟩=>?_
         subst hr
         dsimp only
         rw [List.drop_eq_nil_of_le (by omega),zks hau'] at hcl
         cases hcl
         rw [List.append_nil] at hds
         subst hds
         obtain ⟨mm,hns,_⟩:=id I4.loc
         rw [eL] at hns
         refine ⟨mm,hns,fun h' hs'=>?_⟩
         have hpin:=I4.pin (Dl,{ cls:=.type "list",data:=.seq (List.toArray its) nn }) (List.mem_append_right _ (List.mem_singleton.mpr rfl))
         have hHC:H' C=none:=by
           have:=I4.free
           rw [eL] at this
           exact this
         have bs:=I4.base
         rw [eFs,eEx,eH0,eS0] at bs
         have nC:∀b o,s2.heap.get? b=some o→b≠C:=fun b o e z=>by
           have:=Heap.lt_size e
           rw [hDl,z] at this
           exact Nat.lt_irrefl _ (Nat.lt_of_lt_of_le this hCle)
         have un:Un (frs X.stack) fp H2 H' s2.heap h' :=
           ⟨fun b o e n h1 h2=>(hs'.2 b (nC b o e)).trans (bs.keep b o e n h1 h2),fun b o e n h1 h2=>by
             obtain ⟨sl,q⟩:=bs.slot b o e n h1 h2
             exact ⟨sl,(hs'.2 b (nC b o e)).trans q⟩,bs.free,fun b o e h2=>by
             obtain ⟨o',q⟩:=bs.there b o e h2
             exact ⟨o',(hs'.2 b (nC b o e)).trans q⟩,bs.tups,bs.frzs,bs.tbls⟩
         have hok4:=I4.hok
         rw [eP,eW] at hok4
         have os4:=I4.os
         rw [eS0] at os4
         have I9:Inv X pins σ H' { s4 with heap:=h' }:=I2.call' (s':={ s4 with heap:=h' }) os4 un (zej hok4 hs' hHC) I4.bare fun b hb=>by
           obtain ⟨_,a1,a2,a3,a4,a5⟩:=f2 b hb
           exact ⟨a3,a1,a4,a5⟩
         have hvl:=rv.length
         have hral:=ra.length
         have hDl2:s2.heap.objs.size≤Dl:=by rw [hDl];exact Nat.le_refl _
         have I10:Inv X pins σ (upd H' Dl (.lst ys)) { s4 with heap:=h' }:=Inv.track (its:=its) (n:=nn) I9 hD' ((hs'.2 Dl hDC).trans hpin.1) rv (by omega) (.inr (Nat.le_trans I2.sz hDl2)) (Ne.symm (Nat.ne_of_lt (Nat.lt_of_lt_of_le I2.lt hDl2)))
           (fun y a e=>by
             obtain ⟨v,q⟩:=I2.cell y a e
             exact Nat.ne_of_lt (Nat.lt_of_lt_of_le q.lt hDl2)) (fun q hq z=>by
             have:=Heap.lt_size (I2.pin q hq).1
             rw [hDl,z] at this
             exact Nat.lt_irrefl _ this)
         refine ⟨.ref Dl,upd H' Dl (.lst ys),I10,rfl,?_⟩
         exact k _ ρ' _ (E1.trans (E'.trans (zbv hSi _ hD'))) (hSi.new _ hD') (Rep.lst (s:=hSi) hD' ra)
     exact codeAny_compStart_list (loop _ rfl) (T.self X.A 0 _ _ _ (T.keep _ _ _ st2 (fun b hb o e=>old b o e)) (loop _ rfl))
   · cases hf
 | _=>cases hf
end
end F
set_option maxHeartbeats 2000000
namespace Mt
open PySem L2 F
def isI:D→Option Int
 | .int i=>some i
 | _=>none
def isS:D→Option Str
 | .str i=>some i
 | _=>none
def isP:D→Option (Int×Int)
 | .tup [.int a,.int b]=>some (a,b)
 | _=>none
def ad (k:Nat) (x y:D):D:=match k with
 | 1=>(match isI x,isI y with | some i,some j=>.int (i + j) | _,_=>.non)
 | 2=>(match isS x,isS y with | some i,some j=>.str (i++j) | _,_=>.non)
 | 3=>(match isP x,isP y with | some p,some q=>.tup [.int (p.1 * q.1 % 1000003),.int ((p.2 * q.1 + q.2) % 1000003)] | _,_=>.non)
 | 4=>(match isI x,isI y with | some i,some j=>.int (if j > i then j else i) | _,_=>.non)
 | _=>.non
theorem zuo (a b c:Str):a++b++c=a++(b++c):=by
 show Str.mk ((a.cps++b.cps)++c.cps)=Str.mk (a.cps++(b.cps++c.cps))
 rw [Array.append_assoc]
theorem str_len (a b:Str):(a++b).length=a.length + b.length:=strLen_append a b
theorem ad1 (x y:D):ad 1 x y=match isI x,isI y with | some i,some j=>.int (i + j) | _,_=>.non:=rfl
theorem ad2 (x y:D):ad 2 x y=match isS x,isS y with | some i,some j=>.str (i++j) | _,_=>.non:=rfl
theorem ad4 (x y:D):ad 4 x y=match isI x,isI y with | some i,some j=>.int (if j > i then j else i) | _,_=>.non:=rfl
theorem ad3 (x y:D):ad 3 x y=match isP x,isP y with | some p,some q=>.tup [.int (p.1 * q.1 % 1000003),.int ((p.2 * q.1 + q.2) % 1000003)] | _,_=>.non:=rfl
theorem mm (a b m:Int):(a % m * b) % m=a * b % m:=by rw [Int.mul_emod,Int.emod_emod_of_dvd _ (Int.dvd_refl m),← Int.mul_emod]
theorem mm' (a b m:Int):(b * (a % m)) % m=b * a % m:=by rw [Int.mul_comm,mm,Int.mul_comm]
theorem am (a b m:Int):(a % m + b) % m=(a + b) % m:=by rw [Int.add_emod,Int.emod_emod_of_dvd _ (Int.dvd_refl m),← Int.add_emod]
theorem ad_assoc (k:Nat) (x y z:D):ad k (ad k x y) z=ad k x (ad k y z):=by
 match k with
 | 0=>rfl
 | 1 =>
   simp only [ad1]
   cases h1:isI x <;> cases h2:isI y <;> cases h3:isI z <;> simp [isI,Int.add_assoc]
 | 2 =>
   simp only [ad2]
   cases h1:isS x <;> cases h2:isS y <;> cases h3:isS z <;> simp [isS,zuo]
 | 3 =>
   simp only [ad3]
   cases h1:isP x <;> cases h2:isP y <;> cases h3:isP z <;> simp [isP]
   rename_i p q r
   constructor
   · rw [mm,mm',Int.mul_assoc]
   · rw [← am (_ * _) _ 1000003,mm,← am (p.snd * _) _ 1000003,mm',am,am]
     congr 1
     rw [Int.add_mul,Int.mul_assoc,Int.add_assoc]
 | 4 =>
   simp only [ad4]
   cases h1:isI x <;> cases h2:isI y <;> cases h3:isI z <;> simp [isI]
   repeat' split
   all_goals omega
 | n + 5=>rfl
def sumD (k:Nat):List D→D
 | []=>.non
 | t::r=>if k=0 then .non else r.foldl (ad k) t
theorem zun (ts:List D):sumD 0 ts=.non:=by cases ts <;> rfl
theorem zwu (k:Nat) (a:D):∀(r:List D) (b:D),r.foldl (ad k) (ad k a b)=ad k a (r.foldl (ad k) b)
 | [],_=>rfl
 | c::r,b=>by
   show r.foldl (ad k) (ad k (ad k a b) c)=ad k a (r.foldl (ad k) (ad k b c))
   rw [ad_assoc,zwu k a r]
theorem zei {k:Nat} (hk:k≠0) {xs ys:List D} (hx:xs≠[]) (hy:ys≠[]):sumD k (xs++ys)=ad k (sumD k xs) (sumD k ys):=by
 cases xs with
 | nil=>exact absurd rfl hx
 | cons x xs =>
   cases ys with
   | nil=>exact absurd rfl hy
   | cons y ys =>
     show (if k=0 then D.non else (xs++y::ys).foldl (ad k) x)=ad k (if k=0 then D.non else xs.foldl (ad k) x) (if k=0 then D.non else ys.foldl (ad k) y)
     rw [if_neg hk,if_neg hk,if_neg hk,List.foldl_append,List.foldl_cons,zwu]
theorem zgi {k:Nat} (hk:k≠0) (t:D):sumD k [t]=t:=by show (if k=0 then D.non else t)=t;rw [if_neg hk]
def Th (k n:Nat) (d:D):Prop:=match k with
 | 1=>∃i,d=.int i
 | 2=>∃z,d=.str z∧z.length≤8 * n
 | 3=>∃a b,d=.tup [.int a,.int b]∧0≤a∧a < 1000003∧0≤b∧b < 1000003
 | 4=>∃i,d=.int i
 | _=>False
def Thing (k:Nat) (d:D):Prop:=match k with
 | 0=>(∃i,d=.int i)∨∃z,d=.str z∧z.length≤8
 | k=>Th k 1 d
theorem Th.ad {k n m:Nat}{x y:D} (hx:Th k n x) (hy:Th k m y):Th k (n + m) (ad k x y):=by
 match k,hx,hy with
 | 0,h,_=>exact h.elim
 | 1,⟨i,e⟩,⟨j,e'⟩=>subst e e';exact ⟨_,rfl⟩
 | 2,⟨i,e,h⟩,⟨j,e',h'⟩=>subst e e';exact ⟨_,rfl,by rw [str_len];omega⟩
 | 3,⟨a,b,e,h⟩,⟨c,d,e',h'⟩ =>
   subst e e'
   exact ⟨_,_,rfl,Int.emod_nonneg _ (by decide),Int.emod_lt_of_pos _ (by decide),Int.emod_nonneg _ (by decide),Int.emod_lt_of_pos _ (by decide)⟩
 | 4,⟨i,e⟩,⟨j,e'⟩=>subst e e';exact ⟨_,rfl⟩
 | n + 5,h,_=>exact h.elim
theorem Thing.th {k:Nat}{d:D} (hk:k≠0) (h:Thing k d):Th k 1 d:=by
 match k,hk,h with
 | 0,hk,_=>exact absurd rfl hk
 | k + 1,_,h=>exact h
theorem zuk {k:Nat} (hk:k≠0):∀{ts:List D},ts≠[]→(∀t∈ts,Thing k t)→Th k ts.length (sumD k ts)
 | [],h,_=>absurd rfl h
 | [t],_,h=>by rw [zgi hk];exact (h t (by simp)).th hk
 | t::u::r,_,h=>by
   rw [show t::u::r=[t]++(u::r) from rfl,zei hk (by simp) (by simp),zgi hk]
   have:=((h t (by simp)).th hk).ad (zuk hk (ts:=u::r) (by simp) fun x hx=>h x (List.mem_cons_of_mem _ hx))
   rw [Nat.add_comm] at this
   exact this
def ord (a:Bool) (xs:List D):List D:=if a=true then xs.reverse else xs
theorem zdn (a:Bool) (xs:List D):(ord a xs).length=xs.length:=by unfold ord;split <;> simp
def mkD (num:Int) (a:Bool) (l t r:D) (sz ht:Int) (to ba:D):D:=.tup [.int num,.bl a,l,t,r,.int sz,.int ht,to,ba]
inductive Mk (k:Nat):D→List D→Nat→Prop where
 | non:Mk k .non [] 0
 | node {num:Int}{a:Bool}{l t r:D}{lt rt:List D}{lh rh:Nat}:Mk k l lt lh→Mk k r rt rh→Thing k t→lh≤rh + 1→rh≤lh + 1 →
   Mk k (mkD num a l t r (lt.length + 1 + rt.length:Nat) (max lh rh + 1:Nat) (sumD k (ord a (lt++t::rt))) (sumD k (ord a (lt++t::rt)).reverse)) (ord a (lt++t::rt)) (max lh rh + 1)
theorem Mk.things {k d ts h} (m:Mk k d ts h):∀t∈ts,Thing k t:=by
 induction m with
 | non=>intro t ht;cases ht
 | @node num a l t r lt rt lh rh ml mr ht _ _ il ir =>
   intro x hx
   have:x∈lt++t::rt:=by
     unfold ord at hx
     split at hx
     · exact List.mem_reverse.mp hx
     · exact hx
   rcases List.mem_append.mp this with q | q
   · exact il x q
   · rcases List.mem_cons.mp q with rfl | q
     · exact ht
     · exact ir x q
end Mt
set_option maxHeartbeats 4000000
namespace Pg
open PySem L2 F Mt
variable {k:Nat}{d l r t:D}{ts lt rt:List D}{h lh rh:Nat}{S S1:Sto}{ev e:Ev}
theorem two_le:(2:Nat)≤sizeLine:=by decide
theorem eq_nil (ts:List D):opEq (.lst ts) (.lst [])=some (.bl ts.isEmpty):=by cases ts <;> rfl
theorem eq_int (i j:Int):opEq (.int i) (.int j)=some (.bl (i == j)):=rfl
theorem zuy {i:Nat}{a b:MO} (h:S[i]? = some a):(S.set i b)[i]? = some b:=List.getElem?_set_self (List.getElem?_eq_some_iff.mp h).1
theorem set_ne {i j:Nat} (hij:i≠j) (b:MO):(S.set i b)[j]? = S[j]?:=List.getElem?_set_ne hij
def Ok (c:C) (ev:Ev) (S:Sto):Prop:=∃S',c ev S=some (.rt (.bl true),S')
theorem zao {i:Nat}{f:E} (h:f ev S=some (d,S1)):sSet i f ev S=some (.nx (ev.set i (some d)),S1):=by simp [sSet,h]
theorem zaj {c:B}{a:C} (h:c ev S=some (false,S1)):sIf c a sNil ev S=some (.nx ev,S1):=by simp [sIf,h,sNil]
theorem zbd {c:B}{a b:C}{o:Out}{S2:Sto} (h:c ev S=some (true,S1)) (q:a ev S1=some (o,S2)):sIf c a b ev S=some (o,S2):=by simp [sIf,h,q]
theorem b_of {f:E}{b:Bool} (h:f ev S=some (.bl b,S1)):bE f ev S=some (b,S1):=by simp [bE,h]
theorem b_nT {u:B} (h:u ev S=some (true,S1)):bNot u ev S=some (false,S1):=by simp [bNot,h]
theorem b_andF {u v:B} (h:u ev S=some (false,S1)):bAnd u v ev S=some (false,S1):=by simp [bAnd,h]
theorem b_andT {u v:B}{b:Bool}{S2:Sto} (h:u ev S=some (true,S1)) (q:v ev S1=some (b,S2)):bAnd u v ev S=some (b,S2):=by simp [bAnd,h,q]
theorem b_orF {u v:B}{b:Bool}{S2:Sto} (h:u ev S=some (false,S1)) (q:v ev S1=some (b,S2)):bOr u v ev S=some (b,S2):=by simp [bOr,h,q]
theorem e_2 {op:D→D→Option D}{f g:E}{x y z:D}{S2:Sto} (h:f ev S=some (x,S1)) (q:g ev S1=some (y,S2)) (o:op x y=some z):e2 op f g ev S=some (z,S2):=by simp [e2,h,q,o]
theorem e_2s {op:Sto→D→D→Option D}{f g:E}{x y z:D}{S2:Sto} (h:f ev S=some (x,S1)) (q:g ev S1=some (y,S2)) (o:op S2 x y=some z):e2s op f g ev S=some (z,S2):=by simp [e2s,h,q,o]
theorem e_1 {op:D→Option D}{f:E}{x z:D} (h:f ev S=some (x,S1)) (o:op x=some z):e1 op f ev S=some (z,S1):=by simp [e1,h,o]
theorem e_v {i:Nat} (h:ev[i]? = some (some d)):eV i ev S=some (d,S):=by simp [eV,h]
theorem e_k:eK d ev S=some (d,S):=rfl
theorem a_n:aN ev S=some ([],S):=rfl
theorem a_c {f:E}{g:As}{ds:List D}{S2:Sto} (h:f ev S=some (d,S1)) (q:g ev S1=some (ds,S2)):aC f g ev S=some (d::ds,S2):=by simp [aC,h,q]
theorem zag {g:G}{a:As}{ds:List D}{S2:Sto} (h:a ev S=some (ds,S1)) (q:g ds S1=some (d,S2)):zak g a ev S=some (d,S2):=by simp [zak,h,q]
theorem e_a {op:Sto→List D→Option D}{a:As}{ds:List D} (h:a ev S=some (ds,S1)) (o:op S1 ds=some d):eA op a ev S=some (d,S1):=by simp [eA,h,o]
theorem zgc {a:As}{ds:List D} (h:a ev S=some (ds,S1)) (hl:ds.length≤16777216):eTup a ev S=some (.tup ds,S1):=by
 have hz:sizeLine=16777216:=sizeLine_eq
 simp [eTup,eA,h,hz,hl]
theorem e_lst {a:As}{ds:List D} (h:a ev S=some (ds,S1)) (hl:ds.length≤16777216):eLst a ev S=some (.lst ds,S1):=by
 have hz:sizeLine=16777216:=sizeLine_eq
 simp [eLst,eA,h,hz,hl]
theorem e_newL {a:As}{ds:List D} (h:a ev S=some (ds,S1)) (hl:ds.length≤16777216):eNewL a ev S=some (.obj S1.length,S1++[.lst ds]):=by
 have hz:sizeLine=16777216:=sizeLine_eq
 simp [eNewL,h,hz,hl]
theorem zdd {c m:Str}{g:G}{f:E}{a:As}{i:Nat}{fs:List (Str×D)}{ds:List D}{S2 S3:Sto} (h:f ev S=some (.obj i,S1)) (hi:ziw c S1 (.obj i)=some (i,fs)) (hm:fs.lookup m=none) (ha:a ev S1=some (ds,S2)) (q:g (.obj i::ds) S2=some (d,S3)) :
   zdo c m g f a ev S=some (d,S3):=by simp [zdo,h,hi,hm,ha,q]
theorem e_fld {c n:Str}{f:E}{i:Nat}{fs:List (Str×D)} (h:f ev S=some (.obj i,S1)) (hi:ziw c S1 (.obj i)=some (i,fs)) (hm:fs.lookup n=some d):eFld c n f ev S=some (d,S1):=by simp [eFld,h,hi,hm]
theorem e_sl {f:E}{a b:Pt}{x:D}{lo hi:Option Int}{S2 S3:Sto} (h:f ev S=some (x,S1)) (ha:a ev S1=some (lo,S2)) (hb:b ev S2=some (hi,S3)) (o:opSl x lo hi=some d):eSl f a b ev S=some (d,S3):=by simp [eSl,h,ha,hb,o]
theorem p_n:pN ev S=some (none,S):=rfl
theorem p_e {f:E}{i:Int} (h:f ev S=some (.int i,S1)):pE f ev S=some (some i,S1):=by simp [pE,h]
theorem e_andT {f g:E}{S2:Sto} (h:f ev S=some (.bl true,S1)) (q:g ev S1=some (d,S2)):eAnd f g ev S=some (d,S2):=by simp [eAnd,h,q]
theorem e_andF {f g:E} (h:f ev S=some (.bl false,S1)):eAnd f g ev S=some (.bl false,S1):=by simp [eAnd,h]
theorem e_not {f:E}{b:Bool} (h:f ev S=some (.bl b,S1)):eNot f ev S=some (.bl !b,S1):=by simp [eNot,e1,h]
theorem add_int (i j:Int):zbm (.int i) (.int j)=some (.int (i + j)):=rfl
theorem sub_int (i j:Int):zet (.int i) (.int j)=some (.int (i - j)):=rfl
theorem zjp {xs ys:List D} (h:xs.length + ys.length≤16777216):zbm (.lst xs) (.lst ys)=some (.lst (xs++ys)):=by
 have hz:sizeLine=16777216:=sizeLine_eq
 simp [zbm,hz,h]
theorem zmv {x:D}{xs ys:List D} (h:(x::xs).length + ys.length≤16777216):zbm (.tup (x::xs)) (.tup ys)=some (.tup (x::xs++ys)):=by
 have hz:sizeLine=16777216:=sizeLine_eq
 simp only [zbm,hz,if_pos h]
def pl:Nat→D→Bool
 | _,.non=>true
 | _,.bl _=>true
 | _,.int _=>true
 | _,.str _=>true
 | n + 1,.tup ds=>ds.all (pl n)
 | n + 1,.lst ds=>ds.all (pl n)
 | _,_=>false
theorem zmj {f:D→D→Option Bool}:∀{ds:List D},(∀x∈ds,f x x=some true)→eqL f ds ds=some true
 | [],_=>rfl
 | x::ds,h=>by simp [eqL,h x (by simp),zmj fun y hy=>h y (List.mem_cons_of_mem _ hy)]
theorem zrv:∀{n:Nat}{d:D},pl n d=true→eqN n d d=some true:=by
 intro n
 induction n with
 | zero=>intro d h;cases d <;> first | (cases h;done) | simp [eqN,eqF,zmg,eqV]
 | succ n ih =>
   intro d h
   cases d with
   | tup ds =>
     have h:ds.all (pl n)=true:=h
     exact zmj fun x hx=>ih (List.all_eq_true.mp h x hx)
   | lst ds =>
     have h:ds.all (pl n)=true:=h
     have q:eqL (eqN n) ds ds=some true:=zmj fun x hx=>ih (List.all_eq_true.mp h x hx)
     simp [eqN,q]
   | _=>first | (cases h;done) | simp [eqN,eqF,zmg,eqV,zwg]
theorem pl_mono:∀{n m:Nat}{d:D},n≤m→pl n d=true→pl m d=true:=by
 intro n
 induction n with
 | zero=>intro m d _ h;cases d <;> first | (cases h;done) | (cases m <;> rfl)
 | succ n ih =>
   intro m d hm h
   cases m with
   | zero=>omega
   | succ m =>
     cases d with
     | tup ds=>exact List.all_eq_true.mpr fun x hx=>ih (by omega) (List.all_eq_true.mp h x hx)
     | lst ds=>exact List.all_eq_true.mpr fun x hx=>ih (by omega) (List.all_eq_true.mp h x hx)
     | _=>first | (cases h;done) | rfl
theorem pl_th {n:Nat}{x:D} (hx:Th k n x):pl 1 x=true:=by
 match k,hx with
 | 0,h=>exact h.elim
 | 1,⟨i,e⟩=>subst e;rfl
 | 2,⟨z,e,_⟩=>subst e;rfl
 | 3,⟨a,b,e,_⟩=>subst e;rfl
 | 4,⟨i,e⟩=>subst e;rfl
 | n + 5,h=>exact h.elim
theorem pl_thing {x:D} (hx:Thing k x):pl 1 x=true:=by
 match k,hx with
 | 0,.inl ⟨i,e⟩=>subst e;rfl
 | 0,.inr ⟨z,e,_⟩=>subst e;rfl
 | k + 1,h=>exact pl_th (k:=k + 1) h
theorem eq_pl (h:pl 150 d=true):opEq d d=some (.bl true):=by unfold opEq;rw [zrv h];rfl
theorem ne_pl (h:pl 150 d=true):opNe d d=some (.bl false):=by unfold opNe;rw [zrv h];rfl
theorem pl_lst (hts:∀x∈ts,Thing k x):pl 2 (.lst ts)=true:=List.all_eq_true.mpr fun x hx=>pl_thing (hts x hx)
theorem b_rt {N n:Nat}{c:C}{ds:List D}{S S':Sto}{d:D} (hl:ds.length=n) (h:c (ds.map some++List.replicate (N - ds.length) none) S=some (.rt d,S')):zaz N n c ds S=some (d,S'):=by
 unfold zaz;rw [if_pos hl,h]
theorem zau {f:E} (h:f ev S=some (d,S1)):sRet f ev S=some (.rt d,S1):=by simp [sRet,h]
theorem zbi {a b:C} (h:a ev S=some (.rt d,S1)):sSeq a b ev S=some (.rt d,S1):=by simp [sSeq,h]
theorem zaf {a b:C}{o:Out}{S2:Sto} (h:a ev S=some (.nx e,S1)) (q:b e S1=some (o,S2)):sSeq a b ev S=some (o,S2):=by simp [sSeq,h,q]
inductive Sv:D→Prop where
 | non:Sv .non
 | int (i:Int):Sv (.int i)
 | str (z:Str):Sv (.str z)
 | pair (a b:Int):Sv (.tup [.int a,.int b])
theorem sv_th {n:Nat}{x:D} (hx:Th k n x):Sv x:=by
 match k,hx with
 | 0,h=>exact h.elim
 | 1,⟨i,e⟩=>subst e;exact .int _
 | 2,⟨z,e,_⟩=>subst e;exact .str _
 | 3,⟨a,b,e,_⟩=>subst e;exact .pair _ _
 | 4,⟨i,e⟩=>subst e;exact .int _
 | n + 5,h=>exact h.elim
theorem sv_thing {x:D} (hx:Thing k x):Sv x:=by
 match k,hx with
 | 0,.inl ⟨i,e⟩=>subst e;exact .int _
 | 0,.inr ⟨z,e,_⟩=>subst e;exact .str _
 | k + 1,h=>exact sv_th (k:=k + 1) h
def low:Nat→Nat
 | 0=>0
 | 1=>1
 | h + 2=>low (h + 1) + low h + 1
theorem low_step:∀h:Nat,low h≤low (h + 1)
 | 0=>by decide
 | 1=>by decide
 | h + 2=>by
   show low (h + 2)≤low (h + 2) + low (h + 1) + 1
   omega
theorem zlo {a b:Nat} (h:a≤b):low a≤low b:=by
 induction b with
 | zero=>rw [Nat.le_zero.mp h];exact Nat.le_refl _
 | succ b ih =>
   rcases Nat.lt_or_ge a (b + 1) with q | q
   · exact Nat.le_trans (ih (by omega)) (low_step b)
   · rw [Nat.le_antisymm h q];exact Nat.le_refl _
theorem mk_low {k:Nat}{d:D}{ts:List D}{h:Nat} (m:Mk k d ts h):low h≤ts.length:=by
 induction m with
 | non=>decide
 | @node num a l t r lt rt lh rh ml mr ht h1 h2 il ir =>
   rw [zdn,List.length_append,List.length_cons]
   rcases Nat.le_total lh rh with q | q
   · rw [Nat.max_eq_right q]
     cases rh with
     | zero => have:lh=0:=by omega
               subst this;show 1≤_;omega
     | succ rh =>
       show low (rh + 1) + low rh + 1≤_
       have:=zlo (show rh≤lh by omega)
       omega
   · rw [Nat.max_eq_left q]
     cases lh with
     | zero => have:rh=0:=by omega
               subst this;show 1≤_;omega
     | succ lh =>
       show low (lh + 1) + low lh + 1≤_
       have:=zlo (show lh≤rh by omega)
       omega
theorem zeu {x j:Int} (h:0 < j):zcw (.int x) (.int j)=some (.int (x % j)):=by simp [zcw,F.opI,modI,h]
theorem div_e {x j:Int} (h:0 < j∧j < 1073741824):zjs (.int x) (.int j)=some (.int (x / j)):=by simp [zjs,F.opI,divI,h]
theorem zre {x y:Int} (h:-(2 ^ 64) < x∧x < 2 ^ 64):zep (.int x) (.int y)=some (.int (x * y)):=by
 simp only [zep,F.opI,mulI];rw [if_pos (.inl h)];rfl
theorem zrd {x y:Int} (h:-(2 ^ 64) < y∧y < 2 ^ 64):zep (.int x) (.int y)=some (.int (x * y)):=by
 simp only [zep,F.opI,mulI];rw [if_pos (.inr (.inl h))];rfl
theorem zls (S:Sto) (x:MO):(S++[x])[S.length]? = some x:=by simp
end Pg
set_option maxHeartbeats 8000000
namespace Pg
open PySem L2 F
noncomputable section
def lt_0:LT where
 params:={
                           posonlyargs:=[],
                           args:=[{ arg:="_law_thing_here",annotation:=none,pos:=⟨260,41,260,56⟩:PySem.Arg }],
                           vararg:=none,
                           kwonlyargs:=[],
                           kw_defaults:=[],
                           kwarg:=none,
                           defaults:=[]:PySem.Arguments }
 body:=(PySem.Expr.Call
                           (func:=(PySem.Expr.Name "_law_key" ⟨260,58,260,66⟩))
                           (args:=[(PySem.Expr.Name "_law_kind" ⟨260,67,260,76⟩),(PySem.Expr.Name "_law_thing_here" ⟨260,78,260,93⟩)])
                           (keywords:=[])
                           (pos:=⟨260,58,260,94⟩))
 scope:={
                           kind:=PySem.ScopeKind.function,
                           names:=[
                             (PySem.Str.ofString "_law_thing_here",PySem.NameKind.local),
                             (PySem.Str.ofString "_law_kind",PySem.NameKind.free),
                             (PySem.Str.ofString "_law_key",PySem.NameKind.globalImplicit)],
                           isGenerator:=false,
                           isCoroutine:=false,
                           more:=[]:PySem.Scope }
 qual:=(("_law_some":Str)++".<locals>.")++"<lambda>"
 caps:=["_law_kind"]
def lt_1:LT where
 params:={
                   posonlyargs:=[],
                   args:=[
                     { arg:="_law_one",annotation:=none,pos:=⟨272,25,272,33⟩:PySem.Arg },
                     { arg:="_law_other",annotation:=none,pos:=⟨272,35,272,45⟩:PySem.Arg }],
                   vararg:=none,
                   kwonlyargs:=[],
                   kw_defaults:=[],
                   kwarg:=none,
                   defaults:=[]:PySem.Arguments }
 body:=(PySem.Expr.Compare
                   (left:=(PySem.Expr.Call
                     (func:=(PySem.Expr.Name "_law_key" ⟨272,47,272,55⟩))
                     (args:=[(PySem.Expr.Name "_law_kind" ⟨272,56,272,65⟩),(PySem.Expr.Name "_law_one" ⟨272,67,272,75⟩)])
                     (keywords:=[])
                     (pos:=⟨272,47,272,76⟩)))
                   (ops:=[PySem.CmpOp.Lt])
                   (comparators:=[
                     (PySem.Expr.Call
                       (func:=(PySem.Expr.Name "_law_key" ⟨272,79,272,87⟩))
                       (args:=[(PySem.Expr.Name "_law_kind" ⟨272,88,272,97⟩),(PySem.Expr.Name "_law_other" ⟨272,99,272,109⟩)])
                       (keywords:=[])
                       (pos:=⟨272,79,272,110⟩))])
                   (pos:=⟨272,47,272,110⟩))
 scope:={
                   kind:=PySem.ScopeKind.function,
                   names:=[
                     (PySem.Str.ofString "_law_one",PySem.NameKind.local),
                     (PySem.Str.ofString "_law_other",PySem.NameKind.local),
                     (PySem.Str.ofString "_law_kind",PySem.NameKind.free),
                     (PySem.Str.ofString "_law_key",PySem.NameKind.globalImplicit)],
                   isGenerator:=false,
                   isCoroutine:=false,
                   more:=[]:PySem.Scope }
 qual:=(("_law_asked":Str)++".<locals>.")++"<lambda>"
 caps:=["_law_kind"]
open Classical in
noncomputable def lamt:LT→Option G:=fun t =>
 none
def tabs:List (Str×Str):=[("_law_asked",(("_law_asked":Str)++".<locals>.")++"<lambda>"),("_law_some",(("_law_some":Str)++".<locals>.")++"<lambda>")]
def zdw:C :=
 (sSeq (zst "Wood" "adding" (eV 0) (eV 1)) (zst "Wood" "nodes_made" (eV 0) (eK (.int 0))))
def zbs:G:=zaz 2 2 zdw
def zkx:C :=
 (sSeq (sIf (bE (e2 opEq (eV 0) (eK (.int 1)))) (sRet (e2 zet (eK (.int 0)) (eV 1))) sNil) (sSeq (sIf (bE (e2 opEq (eV 0) (eK (.int 2)))) (sRet (eTup (aC (e2 zcw (eV 1) (eK (.int 7))) (aC (eV 1) aN)))) sNil) (sSeq (sIf (bE (e2 opEq (eV 0) (eK (.int 3)))) (sRet (e2 zjs (eV 1) (eK (.int 3)))) sNil) (sSeq (sIf (bE (e2 opEq (eV 0) (eK (.int 4)))) (sRet (eA absD (aC (eV 1) aN))) sNil) (sSeq (sIf (bE (e2 opEq (eV 0) (eK (.int 6)))) (sRet (eTup (aC (eA lenD (aC (eV 1) aN)) (aC (eV 1) aN)))) sNil) (sSeq (sIf (bE (e2 opEq (eV 0) (eK (.int 7)))) (sRet (eSlS (eV 1) pN (pE (eK (.int 1))))) sNil) (sRet (eV 1))))))))
def zbb:G:=zaz 2 2 zkx
def zgr:C :=
 (sIf (bNot (bE (zny opLe opLt (eK (.int 0)) (eV 0) (eV 1)))) znd sNil)
def zdb:G:=zaz 2 2 zgr
def c_size:C :=
 (sSeq (sIf (bE (e2 opIs (eV 0) (eK .non))) (sRet (eK (.int 0))) sNil) (sRet (e2s opIx (eV 0) (eK (.int 5)))))
def zbp:G:=zaz 1 1 c_size
def c_seen:C :=
 (sSeq (sIf (bE (e2 opEq (e2s opIx (eV 0) (eK (.int 1))) (eV 1))) (sRet (eTup (aC (e2s opIx (eV 0) (eK (.int 2))) (aC (e2s opIx (eV 0) (eK (.int 3))) (aC (e2s opIx (eV 0) (eK (.int 4))) (aC (eK (.bl false)) aN)))))) sNil) (sRet (eTup (aC (e2s opIx (eV 0) (eK (.int 4))) (aC (e2s opIx (eV 0) (eK (.int 3))) (aC (e2s opIx (eV 0) (eK (.int 2))) (aC (eK (.bl true)) aN)))))))
def zey:G:=zaz 2 2 c_seen
def zkt (self:G):C :=
 (sSeq (sSet 3 (zak zey (aC (eV 0) (aC (eV 1) aN)))) (sSeq (sSet 4 (zak zbp (aC (e2s opIx (eV 3) (eK (.int 0))) aN))) (sSeq (sIf (bE (e2 opLt (eV 2) (eV 4))) (sRet (zak (self) (aC (e2s opIx (eV 3) (eK (.int 0))) (aC (e2s opIx (eV 3) (eK (.int 3))) (aC (eV 2) aN))))) sNil) (sSeq (sIf (bE (e2 opGt (eV 2) (eV 4))) (sRet (zak (self) (aC (e2s opIx (eV 3) (eK (.int 2))) (aC (e2s opIx (eV 3) (eK (.int 3))) (aC (e2 zet (e2 zet (eV 2) (eV 4)) (eK (.int 1))) aN))))) sNil) (sRet (e2s opIx (eV 3) (eK (.int 1))))))))
def zcc:Nat→G
 | 0=>fun _ _=>none
 | k + 1=>zaz 5 3 (zkt (zcc k))
def c_at:C :=
 (sSeq (zjr (zak zdb (aC (eV 1) (aC (zak zbp (aC (eV 0) aN)) aN)))) (sRet (zak (zcc 40) (aC (eV 0) (aC (eK (.bl false)) (aC (eV 1) aN))))))
def g_at:G:=zaz 2 2 c_at
def ge_0:E :=
 (zak zbb (aC (eV 1) (aC (eV 0) aN)))
def gl_0:G:=ztv 2 2 ge_0
def ge_1:E :=
 (e2 zta (zak zbb (aC (eV 2) (aC (eV 0) aN))) (zak zbb (aC (eV 2) (aC (eV 1) aN))))
def gl_1:G:=ztv 3 3 ge_1
open Classical in
noncomputable def clot:LT→Option G:=fun t =>
 if t=lt_0 then some gl_0 else
 if t=lt_1 then some gl_1 else
 none
def ft:Str→Option G:=fun x =>
 none
def zgq:C :=
 (sRet (eAnd (e2 opLt (eV 1) (zak zbp (aC (eV 0) aN))) (eNot (zkp ft lamt clot (eV 3) (aC (eV 2) (aC (zak g_at (aC (eV 0) (aC (eV 1) aN))) aN))))))
def zda:G:=zaz 4 4 zgq
def zfw (self:G):C :=
 (sSeq (sIf (bE (e2 opIs (eV 0) (eK .non))) (sRet (eK (.int 0))) sNil) (sSeq (sSet 4 (zak zey (aC (eV 0) (aC (eV 1) aN)))) (sSeq (sIf (bE (zkp ft lamt clot (eV 3) (aC (e2s opIx (eV 4) (eK (.int 1))) (aC (eV 2) aN)))) (sRet (e2 zbm (e2 zbm (zak zbp (aC (e2s opIx (eV 4) (eK (.int 0))) aN)) (eK (.int 1))) (zak (self) (aC (e2s opIx (eV 4) (eK (.int 2))) (aC (e2s opIx (eV 4) (eK (.int 3))) (aC (eV 2) (aC (eV 3) aN))))))) sNil) (sRet (zak (self) (aC (e2s opIx (eV 4) (eK (.int 0))) (aC (e2s opIx (eV 4) (eK (.int 3))) (aC (eV 2) (aC (eV 3) aN)))))))))
def zce:Nat→G
 | 0=>fun _ _=>none
 | k + 1=>zaz 5 4 (zfw (zce k))
def zku:C :=
 (sRet (zak (zce 40) (aC (eV 0) (aC (eK (.bl false)) (aC (eV 1) (aC (eV 2) aN))))))
def zcv:G:=zaz 3 3 zku
def c_has:C :=
 (sRet (zak zda (aC (eV 0) (aC (zak zcv (aC (eV 0) (aC (eV 1) (aC (eV 2) aN)))) (aC (eV 1) (aC (eV 2) aN))))))
def zwp:G:=zaz 3 3 c_has
def zhm (cl:List (Str×Addr)):C :=
 (sSeq (sSet 4 (eLam 0 "_law_asked" { lt_1 with cl:=cl })) (sSeq (sSet 5 (eA lenD (aC (eCapK [3] fun kv=>zhi [4,2] (eV 1) (bE (zkr gl_1 1 lt_1 cl kv (aC (eV 0) (aC (eV 2) aN)))) (eV 0)) aN))) (sSeq (sSet 6 (zkq zcv (aC (eV 0) (aC (eV 2) aN)) 4 lt_1 cl [3])) (sSeq (sSet 7 (zkq zwp (aC (eV 0) (aC (eV 2) aN)) 4 lt_1 cl [3])) (sSeq (sIf (bOr (bNot (bE (eA isiD (aC (eV 6) (aC (eK (.ty "int")) aN))))) (bOr (bE (eA isiD (aC (eV 6) (aC (eK (.ty "bool")) aN)))) (bOr (bE (e2 opNe (eV 6) (eV 5))) (bNot (bE (eA isiD (aC (eV 7) (aC (eK (.ty "bool")) aN)))))))) (sRet (eK (.bl false))) sNil) (sRet (e2 opEq (eV 7) (e2 opNe (zhi [3,2] (eV 1) (bE (e2 opEq (zak zbb (aC (eV 1) (aC (eV 0) aN))) (zak zbb (aC (eV 1) (aC (eV 2) aN))))) (eV 0)) (eLst aN)))))))))
def zdj:G:=gA fun cl=>zaz 8 4 (zhm cl)
def zjk:C :=
 (sSeq (sSet 2 (e2 zbm (e2 zep (e2 zep (eV 1) (eV 1)) (eK (.int 7919))) (eK (.int 17)))) (sSeq (sIf (bE (e2 opGt (eA lenD (aC (eV 0) aN)) (eK (.int 0)))) (sSet 2 (e2 zbm (e2 zcw (e2s opIx (eV 0) (e2 zcw (eV 1) (eA lenD (aC (eV 0) aN)))) (e2 zid (eK (.int 10)) (eK (.int 30)))) (e2 zep (e2 zjs (eV 1) (eA lenD (aC (eV 0) aN))) (eK (.int 104729))))) sNil) (sRet (e2 zcw (e2 zep (e2 zcw (e2 zbm (e2 zep (eV 2) (eK (.int 48271))) (e2 zep (eV 1) (eK (.int 69621)))) (eK (.int 2147483647))) (e2 zbm (e2 zcw (eV 2) (eK (.int 65521))) (eK (.int 3)))) (eK (.int 999999937))))))
def zaw:G:=zaz 3 2 zjk
def zdv:C :=
 (sSeq (sSet 2 (eFld "Wood" "nodes_made" (eV 0))) (sSeq (zst "Wood" "nodes_made" (eV 0) (e2 zbm (eV 2) (eK (.int 1)))) (sRet (e2 zbm (eTup (aC (eV 2) aN)) (eV 1)))))
def zbf:G:=zaz 3 2 zdv
def c_back:C :=
 (sSeq (sIf (bE (e2 opIs (eV 0) (eK .non))) (sRet (eK .non)) sNil) (sRet (e2s opIx (eV 0) (eK (.int 8)))))
def zez:G:=zaz 1 1 c_back
def zsh:C :=
 (sSeq (sIf (bE (e2 opIs (eV 0) (eK .non))) (sRet (eK (.int 0))) sNil) (sRet (e2s opIx (eV 0) (eK (.int 6)))))
def zax:G:=zaz 1 1 zsh
def c_total:C :=
 (sSeq (sIf (bE (e2 opIs (eV 0) (eK .non))) (sRet (eK .non)) sNil) (sRet (e2s opIx (eV 0) (eK (.int 7)))))
def zdf:G:=zaz 1 1 c_total
def zgs:C :=
 (sSeq (sIf (bE (e2 opIs (eV 1) (eK .non))) (sRet (eK .non)) sNil) (sSeq (sSet 2 (eTup (aC (e2s opIx (eV 1) (eK (.int 2))) (aC (e2s opIx (eV 1) (eK (.int 3))) (aC (e2s opIx (eV 1) (eK (.int 4))) aN))))) (sRet (zdo "Wood" "numbered" zbf (eV 0) (aC (e2 zbm (e2 zbm (eTup (aC (eNot (e2s opIx (eV 1) (eK (.int 1)))) aN)) (eV 2)) (eTup (aC (zak zbp (aC (eV 1) aN)) (aC (zak zax (aC (eV 1) aN)) (aC (zak zez (aC (eV 1) aN)) (aC (zak zdf (aC (eV 1) aN)) aN)))))) aN)))))
def zat:G:=zaz 3 2 zgs
def zhk:C :=
 (sIf (bE (e2 opGt (eV 0) (eK (.int 2000)))) znd sNil)
def zbx:G:=zaz 1 1 zhk
def zec:C :=
 (sRet (e2 zbm (eK (.int 1)) (eA maxD (aC (zak zax (aC (eV 0) aN)) (aC (zak zax (aC (eV 1) aN)) aN)))))
def zcd:G:=zaz 2 2 zec
def zfg:C :=
 (sRet (e2 opLe (eA absD (aC (e2 zet (zak zax (aC (eV 0) aN)) (zak zax (aC (eV 1) aN))) aN)) (eK (.int 1))))
def zbh:G:=zaz 2 2 zfg
def zfe:C :=
 (sRet (e2 zbm (e2 zbm (zak zbp (aC (eV 0) aN)) (eK (.int 1))) (zak zbp (aC (eV 1) aN))))
def zcu:G:=zaz 2 2 zfe
def zfx:C :=
 (sSeq (sSet 4 (eV 2)) (sSeq (sIf (bE (e2 zdr (eV 3) (eK .non))) (sSet 4 (zeo ft lamt (eV 0) (aC (zak zez (aC (eV 3) aN)) (aC (eV 4) aN)))) sNil) (sSeq (sIf (bE (e2 zdr (eV 1) (eK .non))) (sSet 4 (zeo ft lamt (eV 0) (aC (eV 4) (aC (zak zez (aC (eV 1) aN)) aN)))) sNil) (sRet (eV 4)))))
def zco:G:=zaz 5 4 zfx
def zhj:C :=
 (sSeq (sSet 4 (eV 2)) (sSeq (sIf (bE (e2 zdr (eV 1) (eK .non))) (sSet 4 (zeo ft lamt (eV 0) (aC (zak zdf (aC (eV 1) aN)) (aC (eV 4) aN)))) sNil) (sSeq (sIf (bE (e2 zdr (eV 3) (eK .non))) (sSet 4 (zeo ft lamt (eV 0) (aC (eV 4) (aC (zak zdf (aC (eV 3) aN)) aN)))) sNil) (sRet (eV 4)))))
def zdi:G:=zaz 5 4 zhj
def zdz:C :=
 (sSeq (sIf (bE (e2 opIs (eV 0) (eK .non))) (sRet (eTup (aC (eK .non) (aC (eK .non) aN)))) sNil) (sRet (eTup (aC (zak zdi (aC (eV 0) (aC (eV 1) (aC (eV 2) (aC (eV 3) aN))))) (aC (zak zco (aC (eV 0) (aC (eV 1) (aC (eV 2) (aC (eV 3) aN))))) aN)))))
def zci:G:=zaz 4 4 zdz
def zjl:C :=
 (sSeq (sSet 4 (zak zcu (aC (eV 1) (aC (eV 3) aN)))) (sSeq (zjr (zak zbx (aC (eV 4) aN))) (sSeq (sIf (bNot (bE (zak zbh (aC (eV 1) (aC (eV 3) aN))))) znd sNil) (sSeq (sSet 5 (eTup (aC (eV 4) (aC (zak zcd (aC (eV 1) (aC (eV 3) aN))) aN)))) (sSeq (sSet 6 (zak zci (aC (eFld "Wood" "adding" (eV 0)) (aC (eV 1) (aC (eV 2) (aC (eV 3) aN)))))) (sRet (zdo "Wood" "numbered" zbf (eV 0) (aC (e2 zbm (e2 zbm (eTup (aC (eK (.bl false)) (aC (eV 1) (aC (eV 2) (aC (eV 3) aN))))) (eV 5)) (eV 6)) aN))))))))
def zan:G:=zaz 7 4 zjl
def c_built (self:G):C :=
 (sSeq (sIf (bE (e2 opEq (eV 2) (eV 3))) (sRet (eK .non)) sNil) (sSeq (sSet 4 (e2 zjs (e2 zbm (eV 2) (eV 3)) (eK (.int 2)))) (sSeq (sSet 5 (zak (self) (aC (eV 0) (aC (eV 1) (aC (eV 2) (aC (eV 4) aN)))))) (sSeq (sSet 6 (zak (self) (aC (eV 0) (aC (eV 1) (aC (e2 zbm (eV 4) (eK (.int 1))) (aC (eV 3) aN)))))) (sRet (zdo "Wood" "node" zan (eV 0) (aC (eV 5) (aC (e2s opIx (eV 1) (eV 4)) (aC (eV 6) aN)))))))))
def zhc:Nat→G
 | 0=>fun _ _=>none
 | k + 1=>zaz 7 4 (c_built (zhc k))
def zok:C :=
 (sSeq (zjr (zak zbx (aC (eA lenD (aC (eV 1) aN)) aN))) (sRet (zak (zhc 40) (aC (eV 0) (aC (eV 1) (aC (eK (.int 0)) (aC (eA lenD (aC (eV 1) aN)) aN)))))))
def zdu:G:=zaz 2 2 zok
def zfh:C :=
 (sIf (bNot (bE (zmk opLe opLe opLe (eK (.int 0)) (eV 1) (eV 2) (zak zbp (aC (eV 0) aN))))) znd sNil)
def zck:G:=zaz 3 3 zfh
def zpy:C :=
 (sSeq (sIf (bNot (bE (e2s opIx (eV 1) (eK (.int 1))))) (sRet (eTup (aC (e2s opIx (eV 1) (eK (.int 2))) (aC (e2s opIx (eV 1) (eK (.int 3))) (aC (e2s opIx (eV 1) (eK (.int 4))) aN))))) sNil) (sSeq (sSet 2 (zdo "Wood" "turned" zat (eV 0) (aC (e2s opIx (eV 1) (eK (.int 4))) aN))) (sSeq (sSet 3 (zdo "Wood" "turned" zat (eV 0) (aC (e2s opIx (eV 1) (eK (.int 2))) aN))) (sRet (eTup (aC (eV 2) (aC (e2s opIx (eV 1) (eK (.int 3))) (aC (eV 3) aN))))))))
def zbu:G:=zaz 4 2 zpy
def zgp:C :=
 (sSeq (sSet 4 (zak zbu (aC (eV 0) (aC (eV 1) aN)))) (sSeq (sIf (bE (e2 opGe (zak zax (aC (e2s opIx (eV 4) (eK (.int 0))) aN)) (zak zax (aC (e2s opIx (eV 4) (eK (.int 2))) aN)))) (sRet (zdo "Wood" "node" zan (eV 0) (aC (e2s opIx (eV 4) (eK (.int 0))) (aC (e2s opIx (eV 4) (eK (.int 1))) (aC (zdo "Wood" "node" zan (eV 0) (aC (e2s opIx (eV 4) (eK (.int 2))) (aC (eV 2) (aC (eV 3) aN)))) aN))))) sNil) (sSeq (sSet 5 (zak zbu (aC (eV 0) (aC (e2s opIx (eV 4) (eK (.int 2))) aN)))) (sSeq (sSet 6 (zdo "Wood" "node" zan (eV 0) (aC (e2s opIx (eV 4) (eK (.int 0))) (aC (e2s opIx (eV 4) (eK (.int 1))) (aC (e2s opIx (eV 5) (eK (.int 0))) aN))))) (sSeq (sSet 7 (zdo "Wood" "node" zan (eV 0) (aC (e2s opIx (eV 5) (eK (.int 2))) (aC (eV 2) (aC (eV 3) aN))))) (sRet (zdo "Wood" "node" zan (eV 0) (aC (eV 6) (aC (e2s opIx (eV 5) (eK (.int 1))) (aC (eV 7) aN))))))))))
def zcy:G:=zaz 8 4 zgp
def zfv:C :=
 (sSeq (sSet 4 (zak zbu (aC (eV 0) (aC (eV 3) aN)))) (sSeq (sIf (bE (e2 opGe (zak zax (aC (e2s opIx (eV 4) (eK (.int 2))) aN)) (zak zax (aC (e2s opIx (eV 4) (eK (.int 0))) aN)))) (sRet (zdo "Wood" "node" zan (eV 0) (aC (zdo "Wood" "node" zan (eV 0) (aC (eV 1) (aC (eV 2) (aC (e2s opIx (eV 4) (eK (.int 0))) aN)))) (aC (e2s opIx (eV 4) (eK (.int 1))) (aC (e2s opIx (eV 4) (eK (.int 2))) aN))))) sNil) (sSeq (sSet 5 (zak zbu (aC (eV 0) (aC (e2s opIx (eV 4) (eK (.int 0))) aN)))) (sSeq (sSet 6 (zdo "Wood" "node" zan (eV 0) (aC (eV 1) (aC (eV 2) (aC (e2s opIx (eV 5) (eK (.int 0))) aN))))) (sSeq (sSet 7 (zdo "Wood" "node" zan (eV 0) (aC (e2s opIx (eV 5) (eK (.int 2))) (aC (e2s opIx (eV 4) (eK (.int 1))) (aC (e2s opIx (eV 4) (eK (.int 2))) aN))))) (sRet (zdo "Wood" "node" zan (eV 0) (aC (eV 6) (aC (e2s opIx (eV 5) (eK (.int 1))) (aC (eV 7) aN))))))))))
def zcn:G:=zaz 8 4 zfv
def zkv:C :=
 (sSeq (sIf (bE (zak zbh (aC (eV 1) (aC (eV 3) aN)))) (sRet (zdo "Wood" "node" zan (eV 0) (aC (eV 1) (aC (eV 2) (aC (eV 3) aN))))) sNil) (sSeq (sIf (bE (e2 opGt (zak zax (aC (eV 1) aN)) (zak zax (aC (eV 3) aN)))) (sRet (zak zcy (aC (eV 0) (aC (eV 1) (aC (eV 2) (aC (eV 3) aN)))))) sNil) (sRet (zak zcn (aC (eV 0) (aC (eV 1) (aC (eV 2) (aC (eV 3) aN))))))))
def zcf:G:=zaz 4 4 zkv
def zsg (self:G):C :=
 (sSeq (sIf (bE (zak zbh (aC (eV 1) (aC (eV 3) aN)))) (sRet (zdo "Wood" "node" zan (eV 0) (aC (eV 1) (aC (eV 2) (aC (eV 3) aN))))) sNil) (sSeq (sIf (bE (e2 opGt (zak zax (aC (eV 1) aN)) (zak zax (aC (eV 3) aN)))) (sSeq (sSet 4 (zak zbu (aC (eV 0) (aC (eV 1) aN)))) (sRet (zak zcf (aC (eV 0) (aC (e2s opIx (eV 4) (eK (.int 0))) (aC (e2s opIx (eV 4) (eK (.int 1))) (aC (zak (self) (aC (eV 0) (aC (e2s opIx (eV 4) (eK (.int 2))) (aC (eV 2) (aC (eV 3) aN))))) aN))))))) sNil) (sSeq (sSet 4 (zak zbu (aC (eV 0) (aC (eV 3) aN)))) (sRet (zak zcf (aC (eV 0) (aC (zak (self) (aC (eV 0) (aC (eV 1) (aC (eV 2) (aC (e2s opIx (eV 4) (eK (.int 0))) aN))))) (aC (e2s opIx (eV 4) (eK (.int 1))) (aC (e2s opIx (eV 4) (eK (.int 2))) aN)))))))))
def zcz:Nat→G
 | 0=>fun _ _=>none
 | k + 1=>zaz 5 4 (zsg (zcz k))
def zji (self:G):C :=
 (sSeq (sIf (bE (e2 opEq (eV 2) (eK (.int 0)))) (sRet (eTup (aC (eK .non) (aC (eV 1) aN)))) sNil) (sSeq (sIf (bE (e2 opEq (eV 2) (zak zbp (aC (eV 1) aN)))) (sRet (eTup (aC (eV 1) (aC (eK .non) aN)))) sNil) (sSeq (sSet 3 (zak zbu (aC (eV 0) (aC (eV 1) aN)))) (sSeq (sSet 4 (zak zbp (aC (e2s opIx (eV 3) (eK (.int 0))) aN))) (sSeq (sIf (bE (e2 opLe (eV 2) (eV 4))) (sSeq (sSet 5 (zak (self) (aC (eV 0) (aC (e2s opIx (eV 3) (eK (.int 0))) (aC (eV 2) aN))))) (sRet (eTup (aC (e2s opIx (eV 5) (eK (.int 0))) (aC (zak (zcz 40) (aC (eV 0) (aC (e2s opIx (eV 5) (eK (.int 1))) (aC (e2s opIx (eV 3) (eK (.int 1))) (aC (e2s opIx (eV 3) (eK (.int 2))) aN))))) aN))))) sNil) (sSeq (sSet 5 (zak (self) (aC (eV 0) (aC (e2s opIx (eV 3) (eK (.int 2))) (aC (e2 zet (e2 zet (eV 2) (eV 4)) (eK (.int 1))) aN))))) (sRet (eTup (aC (zak (zcz 40) (aC (eV 0) (aC (e2s opIx (eV 3) (eK (.int 0))) (aC (e2s opIx (eV 3) (eK (.int 1))) (aC (e2s opIx (eV 5) (eK (.int 0))) aN))))) (aC (e2s opIx (eV 5) (eK (.int 1))) aN))))))))))
def zct:Nat→G
 | 0=>fun _ _=>none
 | k + 1=>zaz 6 3 (zji (zct k))
def zff (self:G):C :=
 (sSeq (sIf (bE (e2 opIs (eV 1) (eK .non))) (sRet (eV 2)) sNil) (sSeq (sIf (bE (e2 opIs (eV 2) (eK .non))) (sRet (eV 1)) sNil) (sRet (zak (zcz 40) (aC (eV 0) (aC (eV 1) (aC (zak (zcc 40) (aC (eV 2) (aC (eK (.bl false)) (aC (eK (.int 0)) aN)))) (aC (zak (self) (aC (eV 0) (aC (eV 2) (aC (eK (.int 0)) aN)))) aN))))))))
def zcb (self:G):G:=zaz 3 3 (zff self)
def zjh (self aux:G):C :=
 (sSeq (sSet 3 (zak zbu (aC (eV 0) (aC (eV 1) aN)))) (sSeq (sSet 4 (zak zbp (aC (e2s opIx (eV 3) (eK (.int 0))) aN))) (sSeq (sIf (bE (e2 opLt (eV 2) (eV 4))) (sRet (zak zcf (aC (eV 0) (aC (zak (self) (aC (eV 0) (aC (e2s opIx (eV 3) (eK (.int 0))) (aC (eV 2) aN)))) (aC (e2s opIx (eV 3) (eK (.int 1))) (aC (e2s opIx (eV 3) (eK (.int 2))) aN)))))) sNil) (sSeq (sIf (bE (e2 opGt (eV 2) (eV 4))) (sRet (zak zcf (aC (eV 0) (aC (e2s opIx (eV 3) (eK (.int 0))) (aC (e2s opIx (eV 3) (eK (.int 1))) (aC (zak (self) (aC (eV 0) (aC (e2s opIx (eV 3) (eK (.int 2))) (aC (e2 zet (e2 zet (eV 2) (eV 4)) (eK (.int 1))) aN)))) aN)))))) sNil) (sRet (zak (aux) (aC (eV 0) (aC (e2s opIx (eV 3) (eK (.int 0))) (aC (e2s opIx (eV 3) (eK (.int 2))) aN)))))))))
def zcs:Nat→G
 | 0=>fun _ _=>none
 | k + 1=>zaz 5 3 (zjh (zcs k) (zcb (zcs k)))
def zcj:G:=zcb (zcs 40)
def zgo:C :=
 (sSeq (zjr (zak zck (aC (eV 1) (aC (eV 2) (aC (eV 3) aN))))) (sSeq (sSet 4 (zak (zct 40) (aC (eV 0) (aC (eV 1) (aC (eV 3) aN))))) (sSeq (sSet 5 (zak (zct 40) (aC (eV 0) (aC (e2s opIx (eV 4) (eK (.int 0))) (aC (eV 2) aN))))) (sSeq (sSet 6 (zak zcj (aC (eV 0) (aC (e2s opIx (eV 5) (eK (.int 0))) (aC (zdo "Wood" "turned" zat (eV 0) (aC (e2s opIx (eV 5) (eK (.int 1))) aN)) aN))))) (sRet (zak zcj (aC (eV 0) (aC (eV 6) (aC (e2s opIx (eV 4) (eK (.int 1))) aN)))))))))
def zcx:G:=zaz 7 4 zgo
def zkw:C :=
 (sSeq (sSet 3 (e2 zcw (zak zaw (aC (eV 0) (aC (eK (.int 3)) aN))) (eK (.int 3)))) (sSeq (sIf (bE (e2 opEq (eV 3) (eK (.int 0)))) (sRet (zak zdu (aC (eV 1) (aC (zrw (aC (eV 2) aN)) aN)))) sNil) (sSeq (sIf (bE (e2 opEq (eV 3) (eK (.int 1)))) (sRet (zdo "Wood" "turned" zat (eV 1) (aC (zak zdu (aC (eV 1) (aC (zgm (eV 2)) aN))) aN))) sNil) (sSeq (sSet 4 (e2 zcw (zak zaw (aC (eV 0) (aC (eK (.int 4)) aN))) (e2 zbm (eA lenD (aC (eV 2) aN)) (eK (.int 1))))) (sSeq (sSet 5 (e2 zbm (eV 4) (e2 zcw (zak zaw (aC (eV 0) (aC (eK (.int 5)) aN))) (e2 zet (e2 zbm (eA lenD (aC (eV 2) aN)) (eK (.int 1))) (eV 4))))) (sSeq (sSet 6 (zgm (eSl (eV 2) (pE (eV 4)) (pE (eV 5))))) (sRet (zak zcx (aC (eV 1) (aC (zak zdu (aC (eV 1) (aC (e2 zbm (e2 zbm (eSl (eV 2) pN (pE (eV 4))) (eV 6)) (eSl (eV 2) (pE (eV 5)) pN)) aN))) (aC (eV 4) (aC (eV 5) aN))))))))))))
def zfn:G:=zaz 7 3 zkw
def zhl:C :=
 (sSeq (sIf (bAnd (bE (e2 opLt (eV 0) (eK (.int 5)))) (bE (e2 opEq (e2 zcw (eV 1) (eK (.int 9))) (eK (.int 0))))) (sRet (e2 zet (e2 zbm (e2 zcw (e2 zep (e2 zbm (eV 1) (eK (.int 5))) (e2 zid (eK (.int 982451653)) (eK (.int 6)))) (e2 zet (e2 zep (eK (.int 2)) (e2 zid (eK (.int 10)) (eK (.int 60)))) (eK (.int 1)))) (eK (.int 1))) (e2 zid (eK (.int 10)) (eK (.int 60))))) sNil) (sSeq (sIf (bE (e2 opLt (eV 0) (eK (.int 5)))) (sRet (e2 zet (e2 zcw (e2 zjs (eV 1) (eK (.int 9))) (eK (.int 81))) (eK (.int 40)))) sNil) (sSeq (sSet 2 (eK (.str (Str.ofString "")))) (sSeq (zva 3 (e2 zbm (eK (.int 1)) (e2 zcw (eV 1) (eK (.int 8)))) (sSet 2 (e2 zbm (eV 2) (e2s opIx (eK (.str (Str.ofString "abc"))) (e2 zcw (e2 zjs (eV 1) (e2s opIx (eTup (aC (eK (.int 8)) (aC (eK (.int 24)) (aC (eK (.int 72)) (aC (eK (.int 216)) (aC (eK (.int 648)) (aC (eK (.int 1944)) (aC (eK (.int 5832)) (aC (eK (.int 17496)) aN))))))))) (eV 3))) (eK (.int 3))))))) (sRet (eV 2))))))
def zbq:G:=zaz 4 2 zhl
def zjj:C :=
 (sSeq (sSet 4 (eNewL aN)) (sSeq (zva 5 (eV 3) (sSeq (sSet 6 (zak zbq (aC (eV 1) (aC (zak zaw (aC (eV 0) (aC (e2 zbm (eV 2) (eV 5)) aN))) aN)))) (sIf (bE (e2 opEq (zko [1,6] (eV 4) (bE (e2 opEq (zak zbb (aC (eV 1) (aC (eV 0) aN))) (zak zbb (aC (eV 1) (aC (eV 2) aN))))) (eV 0)) (eLst aN))) (zgy (eV 4) (eV 6)) sNil))) (sRet (znx (eV 4) gl_0 1 "_law_some" lt_0 [1]))))
def zel:G:=frz (zaz 7 4 zjj)
def zsi (self:G):C :=
 (sSeq (sIf (bE (e2 opIs (eV 0) (eK .non))) sRetN sNil) (sSeq (sSet 3 (zak zey (aC (eV 0) (aC (eV 1) aN)))) (sSeq (zjr (zak (self) (aC (e2s opIx (eV 3) (eK (.int 0))) (aC (e2s opIx (eV 3) (eK (.int 3))) (aC (eV 2) aN))))) (sSeq (zgy (eV 2) (e2s opIx (eV 3) (eK (.int 1)))) (zjr (zak (self) (aC (e2s opIx (eV 3) (eK (.int 2))) (aC (e2s opIx (eV 3) (eK (.int 3))) (aC (eV 2) aN)))))))))
def zfm:Nat→G
 | 0=>fun _ _=>none
 | k + 1=>zaz 4 3 (zsi (zfm k))
def zge:C :=
 (sSeq (sSet 1 (eNewL aN)) (sSeq (zjr (zak (zfm 40) (aC (eV 0) (aC (eK (.bl false)) (aC (eV 1) aN))))) (sRet (eV 1))))
def zdt:G:=frz (zaz 2 1 zge)
end
end Pg
set_option maxHeartbeats 4000000
namespace Pg
open PySem L2 F Mt
class Kd (k:Nat):Prop where
 ne:k=0
variable {k:Nat} [Kd k] {S:Sto}
def fnm (_:Nat):Str:=""
def addv (k:Nat):D:=if k=0 then .non else .fn (fnm k)
theorem add_ok {x y:D}{n m:Nat} (hx:Th k n x) (hy:Th k m y) (hn:n + m≤4000):∃g,ft (fnm k)=some g∧∀S,g [x,y] S=some (ad k x y,S):=by
 have h4:=Kd.ne (k:=k)
 subst h4
 exact hx.elim
end Pg
set_option maxHeartbeats 4000000
namespace Pg
open PySem L2 F Mt
variable {k:Nat} [Kd k] {d l r t:D}{ts lt rt:List D}{h lh rh:Nat}{S S1:Sto}{ev e:Ev}
theorem size_t (a b c d e f g h i:D) (S:Sto):zbp [.tup [a,b,c,d,e,f,g,h,i]] S=some (f,S):=rfl
theorem zro (a b c d e f g h i:D) (S:Sto):zax [.tup [a,b,c,d,e,f,g,h,i]] S=some (g,S):=rfl
theorem zuj (a b c d e f g h i:D) (S:Sto):zdf [.tup [a,b,c,d,e,f,g,h,i]] S=some (h,S):=rfl
theorem back_t (a b c d e f g h i:D) (S:Sto):zez [.tup [a,b,c,d,e,f,g,h,i]] S=some (i,S):=rfl
theorem zdq (m:Mk k d ts h) (S:Sto):zbp [d] S=some (.int ts.length,S):=by
 cases m with
 | non=>rfl
 | node _ _ _ _ _=>rw [mkD,size_t,zdn];simp;omega
theorem zbe (m:Mk k d ts h) (S:Sto):zax [d] S=some (.int h,S):=by
 cases m with
 | non=>rfl
 | node _ _ _ _ _=>rw [mkD,zro]
theorem zqm (m:Mk k d ts h) (S:Sto):zdf [d] S=some (sumD k ts,S):=by
 cases m with
 | non=>rfl
 | node _ _ _ _ _=>rw [mkD,zuj]
theorem back_ok (m:Mk k d ts h) (S:Sto):zez [d] S=some (sumD k ts.reverse,S):=by
 cases m with
 | non=>rfl
 | node _ _ _ _ _=>rw [mkD,back_t]
theorem zli (ml:Mk k l lt lh) (mr:Mk k r rt rh) (S:Sto):zcu [l,r] S=some (.int (lt.length + 1 + rt.length:Nat),S):=by
 simp [zcu,zaz,zfe,sRet,e2,zak,aC,aN,eV,eK,zbm,zdq ml,zdq mr]
theorem zix (ml:Mk k l lt lh) (mr:Mk k r rt rh) (S:Sto):zcd [l,r] S=some (.int (max lh rh + 1:Nat),S):=by
 simp [zcd,zaz,zec,sRet,e2,zak,aC,aN,eV,eK,zbm,eA,maxD,zbe ml,zbe mr]
 split <;> omega
theorem zek (ml:Mk k l lt lh) (mr:Mk k r rt rh) (S:Sto):zbh [l,r] S=some (.bl (decide (lh≤rh + 1∧rh≤lh + 1)),S):=by
 simp [zbh,zaz,zfg,sRet,e2,zak,aC,aN,eV,eK,zet,opLe,F.opI,opIB,eA,absD,zbe ml,zbe mr]
 rw [Bool.eq_iff_iff]
 simp
 split <;> omega
theorem addV_e {a b:E}{x y:D}{n m:Nat} (hk:k≠0) (h0:ev[0]? = some (some (addv k))) (ha:a ev S=some (x,S)) (hb:b ev S=some (y,S)) (hx:Th k n x) (hy:Th k m y) (hn:n + m≤4000):zeo ft lamt (eV 0) (aC a (aC b aN)) ev S=some (ad k x y,S):=by
 obtain ⟨g,hg,hc⟩:=add_ok hx hy hn
 have hav:addv k=.fn (fnm k):=by simp [addv,hk]
 unfold zeo
 rw [e_v h0]
 simp only [Option.bind_some,hav,hg,a_c ha (a_c hb a_n),hc]
theorem zsl {gs:G}{w:E→E}{p q:Nat}{x y:D}{xt yt:List D} (hk:k≠0) (ht:Thing k t) (hn:xt.length + 1 + yt.length≤2000) (hx:∀z∈xt,Thing k z) (hy:∀z∈yt,Thing k z) (ex:x=.non∧xt=[]∨xt≠[]∧∃xs,x=.tup xs) (ey:y=.non∧yt=[]∨yt≠[]∧∃ys,y=.tup ys)
   (ev0:Ev) (S:Sto) (e0:ev0[0]? = some (some (addv k))) (et:ev0[2]? = some (some t)) (ep:ev0[p]? = some (some x)) (eq:ev0[q]? = some (some y)) (hl:ev0.length=5) (hp:p < 4) (hq:q < 4) (hx':∀ev:Ev,ev[p]? = some (some x)→w (eV p) ev S=some (sumD k xt,S)) (hy':∀ev:Ev,ev[q]? = some (some y)→w (eV q) ev S=some (sumD k yt,S)) :
   sSeq (sSet 4 (eV 2)) (sSeq (sIf (bE (e2 zdr (eV p) (eK .non))) (sSet 4 (zeo ft lamt (eV 0) (aC (w (eV p)) (aC (eV 4) aN)))) sNil) (sSeq (sIf (bE (e2 zdr (eV q) (eK .non))) (sSet 4 (zeo ft lamt (eV 0) (aC (eV 4) (aC (w (eV q)) aN)))) sNil) (sRet (eV 4)))) ev0 S=some (.rt (sumD k (xt++t::yt)),S):=by
 have tt:=ht.th hk
 have g4:∀(d:D) (i:Nat),i < 4→(ev0.set 4 (some d))[i]? = ev0[i]?:=fun d i hi=>List.getElem?_set_ne (by omega)
 have s4:∀(ev:Ev) (d:D),ev.length=5→(ev.set 4 (some d))[4]? = some (some d):=fun ev d h=>List.getElem?_set_self (by omega)
 have ss:∀(d e:D),(ev0.set 4 (some d)).set 4 (some e)=ev0.set 4 (some e):=fun d e=>by simp
 have step2:∀(acc:D) (n:Nat),Th k n acc→n + yt.length≤2000→∀{res:D},(yt=[]→res=acc)→(yt≠[]→res=ad k acc (sumD k yt)) →
     sSeq (sIf (bE (e2 zdr (eV q) (eK .non))) (sSet 4 (zeo ft lamt (eV 0) (aC (eV 4) (aC (w (eV q)) aN)))) sNil) (sRet (eV 4)) (ev0.set 4 (some acc)) S=some (.rt res,S):=by
   intro acc n ha hb res r1 r2
   rcases ey with ⟨e1,e2'⟩ | ⟨e1,ys,e2'⟩
   · rw [r1 e2']
     exact zaf (zaj (b_of (e_2 (e_v (by rw [g4 _ _ hq,eq])) e_k (by rw [e1];rfl)))) (zau (e_v (s4 _ _ hl)))
   · rw [r2 e1]
     refine zaf (zbd (b_of (e_2 (e_v (by rw [g4 _ _ hq,eq])) e_k (by rw [e2'];rfl))) (zao (addV_e hk (by rw [g4 _ _ (by decide),e0]) (e_v (s4 _ _ hl)) (hy' _ (by rw [g4 _ _ hq,eq])) ha (zuk hk e1 hy) (by omega)))) (zau (e_v ?_))
     rw [ss];exact s4 _ _ hl
 refine zaf (zao (e_v et)) ?_
 rcases ex with ⟨e1,e2'⟩ | ⟨e1,xs,e2'⟩
 · subst e2'
   refine zaf (zaj (b_of (e_2 (e_v (by rw [g4 _ _ hp,ep])) e_k (by rw [e1];rfl)))) (step2 t 1 tt (by simp at hn;omega) (fun z=>by rw [z,List.nil_append,zgi hk]) fun z=>?_)
   rw [List.nil_append,show t::yt=[t]++yt from rfl,zei hk (by simp) z,zgi hk]
 · have t1:=zuk hk e1 hx
   have e3:sumD k (xt++[t])=ad k (sumD k xt) t:=by rw [zei hk e1 (by simp),zgi hk]
   refine zaf (zbd (b_of (e_2 (e_v (by rw [g4 _ _ hp,ep])) e_k (by rw [e2'];rfl))) (zao (addV_e hk (by rw [g4 _ _ (by decide),e0]) (hx' _ (by rw [g4 _ _ hp,ep])) (e_v (s4 _ _ hl)) t1 tt (by omega)))) ?_
   rw [ss]
   exact step2 _ _ (t1.ad tt) (by omega) (fun z=>by rw [z,e3]) fun z=>by rw [show xt++t::yt=(xt++[t])++yt by simp,zei hk (by simp) z,e3]
theorem zrc {xs:List D} (m:Mk k d ts h):d=.non∧ts=[]∨ts≠[]∧∃xs,d=.tup xs:=by
 cases m with
 | non=>exact .inl ⟨rfl,rfl⟩
 | node _ _ _ _ _=>exact .inr ⟨by intro z;have:=congrArg List.length z;rw [zdn] at this;simp at this,_,rfl⟩
theorem zvs (hk:k≠0) (ml:Mk k l lt lh) (mr:Mk k r rt rh) (ht:Thing k t) (hn:lt.length + 1 + rt.length≤2000) (S:Sto) :
   zdi [addv k,l,t,r] S=some (sumD k (lt++t::rt),S) :=
 b_rt rfl (zsl (w:=fun x=>zak zdf (aC x aN)) (p:=1) (q:=3) (gs:=zdf) hk ht hn ml.things mr.things (zrc (xs:=[]) ml) (zrc (xs:=[]) mr) _ S rfl rfl rfl rfl rfl (by decide) (by decide) (fun ev h=>zag (a_c (e_v h) a_n) (zqm ml S)) (fun ev h=>zag (a_c (e_v h) a_n) (zqm mr S)))
theorem zqb (hk:k≠0) (ml:Mk k l lt lh) (mr:Mk k r rt rh) (ht:Thing k t) (hn:lt.length + 1 + rt.length≤2000) (S:Sto) :
   zco [addv k,l,t,r] S=some (sumD k (lt++t::rt).reverse,S):=by
 have rev:(lt++t::rt).reverse=rt.reverse++t::lt.reverse:=by simp
 have no:∀{d:D}{ts:List D},(d=.non∧ts=[]∨ts≠[]∧∃xs,d=.tup xs)→(d=.non∧ts.reverse=[]∨ts.reverse≠[]∧∃xs,d=.tup xs):=fun h=>by simpa using h
 rw [rev]
 exact b_rt rfl (zsl (w:=fun x=>zak zez (aC x aN)) (p:=3) (q:=1) (gs:=zdf) hk ht (by simp;omega) (fun z hz=>mr.things z (List.mem_reverse.mp hz)) (fun z hz=>ml.things z (List.mem_reverse.mp hz)) (no (zrc (xs:=[]) mr)) (no (zrc (xs:=[]) ml)) _ S rfl rfl rfl rfl rfl (by decide) (by decide) (fun ev h=>zag (a_c (e_v h) a_n) (back_ok mr S)) (fun ev h=>zag (a_c (e_v h) a_n) (back_ok ml S)))
theorem zlf (ml:Mk k l lt lh) (mr:Mk k r rt rh) (ht:Thing k t) (hn:lt.length + 1 + rt.length≤2000) (S:Sto) :
   zci [addv k,l,t,r] S=some (.tup [sumD k (lt++t::rt),sumD k (lt++t::rt).reverse],S):=by
 by_cases hk:k=0
 · subst hk
   simp [zci,zaz,zdz,addv,sSeq,sIf,sRet,bE,e2,eV,eK,opIs,zwh,eTup,eA,aC,aN,two_le,zun]
 · have o:=zvs hk ml mr ht hn
   have b:=zqb hk ml mr ht hn
   have hav:addv k=.fn (fnm k):=by simp [addv,hk]
   rw [hav] at o b ⊢
   simp only [zci,zaz,zdz]
   simp [sSeq,sIf,sRet,sNil,bE,e2,eV,eK,opIs,zwh,eTup,eA,aC,aN,two_le,zak,o,b]
def wd (ad:D) (n:Int):MO:=.ins "Wood" [("adding",ad),("nodes_made",.int n)]
theorem na:((Str.ofString "nodes_made") == (Str.ofString "adding"))=false:=by decide +kernel
theorem na':¬ (Str.ofString "adding"=Str.ofString "nodes_made"):=by decide +kernel
theorem na2:((Str.ofString "numbered") == (Str.ofString "adding"))=false:=by decide +kernel
theorem na3:((Str.ofString "numbered") == (Str.ofString "nodes_made"))=false:=by decide +kernel
theorem na4:((Str.ofString "node") == (Str.ofString "adding"))=false:=by decide +kernel
theorem na5:((Str.ofString "node") == (Str.ofString "nodes_made"))=false:=by decide +kernel
theorem na8:((Str.ofString "turned") == (Str.ofString "adding"))=false:=by decide +kernel
theorem na9:((Str.ofString "turned") == (Str.ofString "nodes_made"))=false:=by decide +kernel
theorem zie {i:Nat}{av:D}{n:Int}{xs:List D} (h:S[i]? = some (wd av n)) (hl:1 + xs.length≤sizeLine) :
   zbf [.obj i,.tup xs] S=some (.tup (.int n::xs),S.set i (wd av (n + 1))):=by
 have h1:(1:Nat)≤sizeLine:=by decide
 unfold wd at h ⊢
 simp [zbf,zaz,zdv,sSeq,sSet,eFld,eV,ziw,h,zst,e2,zbm,eK,sRet,eTup,aC,aN,eA,putD,List.lookup,na,na',hl,h1]
def wfs (av:D) (n:Int):List (Str×D):=[("adding",av),("nodes_made",.int n)]
theorem zbl {i:Nat}{av:D}{n:Int} (h:S[i]? = some (wd av n)):ziw (Str.ofString "Wood") S (.obj i)=some (i,wfs av n):=by
 simp [ziw,h,wd,wfs]
theorem zde (av:D) (n:Int):(wfs av n).lookup (Str.ofString "node")=none:=by simp [wfs,List.lookup,na4,na5]
theorem zgh (av:D) (n:Int):(wfs av n).lookup (Str.ofString "turned")=none:=by simp [wfs,List.lookup,na8,na9]
theorem zud (av:D) (n:Int):(wfs av n).lookup (Str.ofString "adding")=some av:=by simp [wfs,List.lookup]
theorem zia (av:D) (n:Int):(wfs av n).lookup (Str.ofString "numbered")=none:=by simp [wfs,List.lookup,na2,na3]
theorem zfy {f:E} (h:f ev S=some (d,S1)):zjr f ev S=some (.nx ev,S1):=by simp [zjr,h]
theorem b_nx {N n:Nat}{c:C}{ds:List D}{S S':Sto}{e:Ev} (hl:ds.length=n) (h:c (ds.map some++List.replicate (N - ds.length) none) S=some (.nx e,S')):zaz N n c ds S=some (.non,S'):=by
 unfold zaz;rw [if_pos hl,h]
theorem gt_no {x y:Int} (h:x≤y):opGt (.int x) (.int y)=some (.bl false):=by
 show some (D.bl (decide (y < x)))=_
 rw [decide_eq_false (by omega)]
theorem zvb {m:Nat} (h:m≤2000) (S:Sto):zbx [.int m] S=some (.non,S):=b_nx rfl (zaj (b_of (e_2 (e_v rfl) e_k (gt_no (by omega)))))
theorem node_ok {i:Nat}{n:Int} (h:S[i]? = some (wd (addv k) n)) (ml:Mk k l lt lh) (mr:Mk k r rt rh) (ht:Thing k t) (h1:lh≤rh + 1) (h2:rh≤lh + 1) (hn:lt.length + 1 + rt.length≤2000) :
   zan [.obj i,l,t,r] S=some (mkD n false l t r (lt.length + 1 + rt.length:Nat) (max lh rh + 1:Nat) (sumD k (lt++t::rt)) (sumD k (lt++t::rt).reverse),S.set i (wd (addv k) (n + 1))):=by
 have hz:sizeLine=16777216:=sizeLine_eq
 have q:=zli ml mr S
 have b:=zek ml mr S
 have hh:=zix ml mr S
 have sa:=zlf ml mr ht hn S
 rw [decide_eq_true (show lh≤rh + 1∧rh≤lh + 1 from ⟨h1,h2⟩)] at b
 exact b_rt rfl (zaf (zao (zag (a_c (e_v rfl) (a_c (e_v rfl) a_n)) q)) (zaf (zfy (zag (a_c (e_v rfl) a_n) (zvb hn S))) (zaf (zaj (b_nT (b_of (zag (a_c (e_v rfl) (a_c (e_v rfl) a_n)) b)))) (zaf (zao (zgc (a_c (e_v rfl) (a_c (zag (a_c (e_v rfl) (a_c (e_v rfl) a_n)) hh) a_n)) (by simp))) (zaf (zao (zag (a_c (e_fld (e_v rfl) (zbl h) (zud _ _)) (a_c (e_v rfl) (a_c (e_v rfl) (a_c (e_v rfl) a_n)))) sa)) (zau (zdd (e_v rfl) (zbl h) (zia _ _) (a_c (e_2 (e_2 (zgc (a_c e_k (a_c (e_v rfl) (a_c (e_v rfl) (a_c (e_v rfl) a_n)))) (by simp)) (e_v rfl) (zmv (by simp))) (e_v rfl) (zmv (by simp))) a_n) (zie h (by simp;omega)))))))))
theorem node_mk {n:Int} (ml:Mk k l lt lh) (mr:Mk k r rt rh) (ht:Thing k t) (h1:lh≤rh + 1) (h2:rh≤lh + 1) :
   Mk k (mkD n false l t r (lt.length + 1 + rt.length:Nat) (max lh rh + 1:Nat) (sumD k (lt++t::rt)) (sumD k (lt++t::rt).reverse)) (lt++t::rt) (max lh rh + 1):=by
 have:=Mk.node (num:=n) (a:=false) ml mr ht h1 h2
 simpa [ord] using this
theorem zsm {i:Nat}:zat [.obj i,.non] S=some (.non,S):=rfl
theorem turned_t {i:Nat}{n num:Int}{av:D}{a:Bool}{sz ht:Int}{to ba:D} (h:S[i]? = some (wd av n)) :
   zat [.obj i,mkD num a l t r sz ht to ba] S=some (mkD n (!a) l t r sz ht ba to,S.set i (wd av (n + 1))):=by
 have hz:sizeLine=16777216:=sizeLine_eq
 unfold mkD
 exact b_rt rfl (zaf (zaj (b_of (e_2 (e_v rfl) e_k rfl))) (zaf (zao (zgc (a_c (e_2s (e_v rfl) e_k rfl) (a_c (e_2s (e_v rfl) e_k rfl) (a_c (e_2s (e_v rfl) e_k rfl) a_n))) (by simp))) (zau (zdd (e_v rfl) (zbl h) (zia _ _) (a_c (e_2 (e_2 (zgc (a_c (e_not (e_2s (e_v rfl) e_k rfl)) a_n) (by simp)) (e_v rfl) (zmv (by simp))) (zgc (a_c (zag (a_c (e_v rfl) a_n) (size_t _ _ _ _ _ _ _ _ _ _)) (a_c (zag (a_c (e_v rfl) a_n) (zro _ _ _ _ _ _ _ _ _ _)) (a_c (zag (a_c (e_v rfl) a_n) (back_t _ _ _ _ _ _ _ _ _ _)) (a_c (zag (a_c (e_v rfl) a_n) (zuj _ _ _ _ _ _ _ _ _ _)) a_n)))) (by simp)) (zmv (by simp))) a_n) (zie h (by simp;omega))))))
theorem zuf {num n:Int}{a:Bool}{sz ht:Int}{to ba:D} (m:Mk k (mkD num a l t r sz ht to ba) ts h):Mk k (mkD n (!a) l t r sz ht ba to) ts.reverse h:=by
 generalize hd:mkD num a l t r sz ht to ba=d at m
 cases m with
 | non=>cases hd
 | @node num' a' l' t' r' lt rt lh rh ml mr ht' h1 h2 =>
   unfold mkD at hd
   injection hd with hd
   simp only [List.cons.injEq,D.int.injEq,D.bl.injEq,and_true] at hd
   obtain ⟨rfl,rfl,rfl,rfl,rfl,rfl,rfl,rfl,rfl⟩:=hd
   have:=Mk.node (num:=n) (a:=!a) ml mr ht' h1 h2
   have e:ord (!a) (lt++t::rt)=(ord a (lt++t::rt)).reverse:=by
     cases a <;> simp [ord]
   rw [e,List.reverse_reverse] at this
   exact this
theorem zuc (S:Sto) (av:D):zbs [.obj S.length,av] (S++[.ins (Str.ofString "Wood") []])=some (.non,S++[wd av 0]):=by
 have q1:(S++[MO.ins (Str.ofString "Wood") []])[S.length]? = some (MO.ins (Str.ofString "Wood") []):=by simp
 have q2:∀a b:MO,(S++[a]).set S.length b=S++[b]:=by intro a b;simp
 have q3:∀a:MO,(S++[a])[S.length]? = some a:=by intro a;simp
 simp [zbs,zaz,zdw,sSeq,zst,eV,eK,ziw,putD,na',wd,q1,q2,q3]
theorem wood_e0:eMake (Str.ofString "Wood") (dflt 1 zbs) aN ev S=some (.obj S.length,S++[wd .non 0]):=by
 have:=zuc S .non
 simp [eMake,aN,dflt,this]
inductive Tnd (n:Int):D→D→Int→Prop where
 | non:Tnd n .non .non n
 | node {num:Int}{a:Bool}{l t r:D}{sz ht:Int}{to ba:D}:Tnd n (mkD num a l t r sz ht to ba) (mkD n (!a) l t r sz ht ba to) (n + 1)
structure At (S S':Sto) (i:Nat) (av:D) (n n':Int):Prop where
 at_:S'[i]? = some (wd av n')
 le:n≤n'
 ne:∀j,j≠i→S'[j]? = S[j]?
 len:S'.length=S.length
theorem At.refl {i:Nat}{av:D}{n:Int} (h:S[i]? = some (wd av n)):At S S i av n n:=⟨h,Int.le_refl _,fun _ _=>rfl,rfl⟩
theorem At.set {i:Nat}{av:D}{n n':Int} (h:S[i]? = some (wd av n)) (hn:n≤n'):At S (S.set i (wd av n')) i av n n':=⟨zuy h,hn,fun j hj=>set_ne (Ne.symm hj) _,by simp⟩
theorem At.trans {S2:Sto}{i:Nat}{av:D}{n n' n'':Int} (a:At S S1 i av n n') (b:At S1 S2 i av n' n''):At S S2 i av n n'':=⟨b.at_,Int.le_trans a.le b.le,fun j hj=>(b.ne j hj).trans (a.ne j hj),b.len.trans a.len⟩
theorem zgw {i:Nat}{av:D}{n:Int} (m:Mk k d ts h) (hw:S[i]? = some (wd av n)):∃d' n' S',zat [.obj i,d] S=some (d',S')∧Mk k d' ts.reverse h∧Tnd n d d' n'∧At S S' i av n n':=by
 have m0:=m
 cases m with
 | non=>exact ⟨.non,n,S,zsm,.non,.non,At.refl hw⟩
 | node ml mr ht h1 h2=>exact ⟨_,_,_,turned_t hw,zuf m0,.node,At.set hw (by omega)⟩
theorem parts_ok {i:Nat}{n num:Int}{av:D}{a:Bool}{sz ht:Int}{to ba:D} (m:Mk k (mkD num a l t r sz ht to ba) ts h) (hw:S[i]? = some (wd av n)) :
   ∃x y n' S' xt yt xh yh,zbu [.obj i,mkD num a l t r sz ht to ba] S=some (.tup [x,t,y],S')∧At S S' i av n n'∧Mk k x xt xh∧Mk k y yt yh∧ts=xt++t::yt∧h=max xh yh + 1∧xh≤yh + 1∧yh≤xh + 1∧Thing k t ∧
     ((a=false∧x=l∧y=r∧n'=n∧S'=S)∨(a=true∧∃n1,Tnd n r x n1∧Tnd n1 l y n')):=by
 have hs:(3:Nat)≤16777216:=by decide
 generalize hd:mkD num a l t r sz ht to ba=d at m
 cases m with
 | non=>cases hd
 | @node num' a' l' t' r' lt rt lh rh ml mr ht' h1 h2 =>
   unfold mkD at hd
   injection hd with hd
   simp only [List.cons.injEq,D.int.injEq,D.bl.injEq,and_true] at hd
   obtain ⟨rfl,rfl,rfl,rfl,rfl,rfl,rfl,rfl,rfl⟩:=hd
   generalize ((lt.length + 1 + rt.length:Nat):Int)=sz
   generalize ((max lh rh + 1:Nat):Int)=hh
   generalize sumD k (ord a (lt++t::rt))=to
   generalize sumD k (ord a (lt++t::rt)).reverse=ba
   cases a
   · refine ⟨l,r,n,S,lt,rt,lh,rh,?_,At.refl hw,ml,mr,rfl,rfl,h1,h2,ht',.inl ⟨rfl,rfl,rfl,rfl,rfl⟩⟩
     rfl
   · obtain ⟨x,n1,S1,c1,mx,t1,w1⟩:=zgw mr hw
     obtain ⟨y,n2,S2,c2,my,t2,w2⟩:=zgw ml w1.at_
     refine ⟨x,y,n2,S2,rt.reverse,lt.reverse,rh,lh,?_,w1.trans w2,mx,my,by simp [ord],by rw [Nat.max_comm],h2,h1,ht',.inr ⟨rfl,n1,t1,t2⟩⟩
     have f0:bNot (bE (e2s opIx (eV 1) (eK (.int 1)))) [some (.obj i),some (.tup [.int num,.bl true,l,t,r,.int sz,.int hh,to,ba]),none,none] S=some (false,S):=rfl
     have f1:sSet 2 (zdo "Wood" "turned" zat (eV 0) (aC (e2s opIx (eV 1) (eK (.int 4))) aN)) [some (.obj i),some (.tup [.int num,.bl true,l,t,r,.int sz,.int hh,to,ba]),none,none] S=some (.nx [some (.obj i),some (.tup [.int num,.bl true,l,t,r,.int sz,.int hh,to,ba]),some x,none],S1) :=
       zao (zdd (e_v rfl) (zbl hw) (zgh _ _) (a_c (e_2s (e_v rfl) e_k rfl) a_n) c1)
     have f2:sSet 3 (zdo "Wood" "turned" zat (eV 0) (aC (e2s opIx (eV 1) (eK (.int 2))) aN)) [some (.obj i),some (.tup [.int num,.bl true,l,t,r,.int sz,.int hh,to,ba]),some x,none] S1=some (.nx [some (.obj i),some (.tup [.int num,.bl true,l,t,r,.int sz,.int hh,to,ba]),some x,some y],S2) :=
       zao (zdd (e_v rfl) (zbl w1.at_) (zgh _ _) (a_c (e_2s (e_v rfl) e_k rfl) a_n) c2)
     have f3:sRet (eTup (aC (eV 2) (aC (e2s opIx (eV 1) (eK (.int 3))) (aC (eV 3) aN)))) [some (.obj i),some (.tup [.int num,.bl true,l,t,r,.int sz,.int hh,to,ba]),some x,some y] S2=some (.rt (.tup [x,t,y]),S2):=by
       unfold sRet
       rw [zgc (a_c (e_v rfl) (a_c (e_2s (e_v rfl) e_k rfl) (a_c (e_v rfl) a_n))) (by simp)]
       rfl
     simp only [zbu,zaz,zpy,mkD]
     simp only [List.length_cons,List.length_nil,Nat.reduceAdd,if_true,List.map_cons,List.map_nil,Nat.reduceSub,List.replicate,List.cons_append,List.nil_append]
     simp only [sSeq,sIf,f0,Option.bind_some,Bool.false_eq_true,if_false,sNil,f1,f2,f3]
end Pg
set_option maxHeartbeats 4000000
namespace Pg
open PySem L2 F Mt
variable {k:Nat} [Kd k] {d l r t x y:D}{ts lt rt:List D}{h lh rh i:Nat}{n:Int}{S S0 S1:Sto}{ev e:Ev}{P Q:D→Prop}{a b new:List D}
def num:D→Int
 | .tup (.int n::_)=>n
 | _=>0
inductive All (P:D→Prop):D→Prop where
 | non:All P .non
 | node {m:Int}{a:Bool}{l t r:D}{sz ht:Int}{to ba:D}:P (mkD m a l t r sz ht to ba)→All P l→All P r→All P (mkD m a l t r sz ht to ba)
theorem All.inv {m:Int}{a:Bool}{sz ht:Int}{to ba:D} (h:All P (mkD m a l t r sz ht to ba)):All P l∧All P r:=by
 generalize e:mkD m a l t r sz ht to ba=d at h
 cases h with
 | non=>cases e
 | node _ b c =>
   unfold mkD at e
   injection e with e
   simp only [List.cons.injEq,and_true] at e
   obtain ⟨_,_,rfl,_,rfl,_⟩:=e
   exact ⟨b,c⟩
theorem All.mono (h:All P d) (f:∀v,P v→Q v):All Q d:=by
 induction h with
 | non=>exact .non
 | node a _ _ b c=>exact .node (f _ a) b c
def Ac (P:D→Prop) (n:Int) (new:List D) (v:D):Prop:=P v∨∃j:Nat,new[j]? = some v∧num v=n + j
theorem Ac.app {v:D} (h:Ac P n a v):Ac P n (a++b) v:=h.imp id fun ⟨j,h1,h2⟩=>⟨j,by rw [List.getElem?_append_left (List.getElem?_eq_some_iff.mp h1).1,h1],h2⟩
theorem Ac.two {v:D} (h:Ac (Ac P n a) (n + a.length) b v):Ac P n (a++b) v:=by
 rcases h with h | ⟨j,h1,h2⟩
 · exact h.app
 · exact .inr ⟨a.length + j,by rw [List.getElem?_append_right (Nat.le_add_right _ _),Nat.add_sub_cancel_left,h1],by omega⟩
theorem All.old (h:All P d):All (Ac P n a) d:=h.mono fun _=>.inl
theorem All.app (h:All (Ac P n a) d):All (Ac P n (a++b)) d:=h.mono fun _=>Ac.app
theorem All.two (h:All (Ac (Ac P n a) (n + a.length) b) d):All (Ac P n (a++b)) d:=h.mono fun _=>Ac.two
abbrev Wt (k i:Nat) (S:Sto) (n:Int) (new:List D) (S':Sto):Prop:=At S S' i (addv k) n (n + new.length)
theorem Wt.nil (hw:S[i]? = some (wd (addv k) n)):Wt k i S n [] S:=by
 have:=At.refl hw
 unfold Wt;rw [show n + (([]:List D).length:Int)=n from Int.add_zero n];exact this
theorem Wt.two (w:Wt k i S0 n a S) (w':Wt k i S (n + a.length) b S1):Wt k i S0 n (a++b) S1:=by
 have:=At.trans w w'
 have e:n + (a.length:Int) + b.length=n + ((a++b).length:Nat):=by rw [List.length_append];omega
 unfold Wt;rw [← e];exact this
structure Top (a b h:Nat):Prop where
 l:a < h
 r:b < h
 e:h=a + 1∨h=b + 1
theorem zou (a b:Nat):Top a b (max a b + 1):=⟨by omega,by omega,by omega⟩
structure Res (k i:Nat) (S:Sto) (n:Int) (P:D→Prop) (ts:List D) (d:D) (h:Nat) (new:List D) (S':Sto):Prop where
 mm:Mk k d ts h
 wt:Wt k i S n new S'
 all:All (Ac P n new) d
theorem Res.after (w:Wt k i S0 n a S) (r:Res k i S (n + a.length) (Ac P n a) ts d h new S1):Res k i S0 n P ts d h (a++new) S1:=⟨r.mm,w.two r.wt,r.all.two⟩
theorem zef (hw:S[i]? = some (wd (addv k) n)) (ml:Mk k l lt lh) (mr:Mk k r rt rh) (ht:Thing k t) (h1:lh≤rh + 1) (h2:rh≤lh + 1) (hn:lt.length + 1 + rt.length≤2000) (al:All P l) (ar:All P r) :
   ∃d S' h,zan [.obj i,l,t,r] S=some (d,S')∧Res k i S n P (lt++t::rt) d h [d] S'∧Top lh rh h :=
 ⟨_,_,_,node_ok hw ml mr ht h1 h2 hn,⟨node_mk ml mr ht h1 h2,At.set hw (by omega),.node (.inr ⟨0,rfl,(Int.add_zero n).symm⟩) al.old ar.old⟩,zou _ _⟩
theorem Tnd.ac {d':D}{n1:Int} (t:Tnd n d d' n1) (a:All P d):∃new:List D,n1=n + new.length∧All (Ac P n new) d'∧new.length≤1:=by
 cases t with
 | non=>exact ⟨[],(Int.add_zero n).symm,.non,by simp⟩
 | node=>exact ⟨[_],rfl,.node (.inr ⟨0,rfl,(Int.add_zero n).symm⟩) a.inv.1.old a.inv.2.old,by simp⟩
theorem zqk (m:Mk k d ts h) (hw:S[i]? = some (wd (addv k) n)) (al:All P d):∃d' new S',zat [.obj i,d] S=some (d',S')∧Res k i S n P ts.reverse d' h new S'∧new.length≤1:=by
 obtain ⟨d',n',S',c,m',t,w⟩:=zgw m hw
 obtain ⟨new,rfl,al',hl⟩:=t.ac al
 exact ⟨d',new,S',c,⟨m',w,al'⟩,hl⟩
structure Pts (k i:Nat) (S:Sto) (n:Int) (P:D→Prop) (ts:List D) (h:Nat) (x t y:D) (xt yt:List D) (xh yh:Nat) (new:List D) (S':Sto):Prop where
 wt:Wt k i S n new S'
 mx:Mk k x xt xh
 my:Mk k y yt yh
 ht:Thing k t
 hts:ts=xt++t::yt
 hh:Top xh yh h
 h1:xh≤yh + 1
 h2:yh≤xh + 1
 ax:All (Ac P n new) x
 ay:All (Ac P n new) y
 few:new.length≤2
theorem zes (m:Mk k d ts h) (hh:0 < h) (hw:S[i]? = some (wd (addv k) n)) (al:All P d) :
   ∃x t y xt yt xh yh new S',zbu [.obj i,d] S=some (.tup [x,t,y],S')∧Pts k i S n P ts h x t y xt yt xh yh new S':=by
 have m0:=m
 cases m with
 | non=>omega
 | @node num a l t r lt rt lh rh ml mr ht h1 h2 =>
   obtain ⟨x,y,n',S',xt,yt,xh,yh,c,w,mx,my,e1,e2,q1,q2,q3,q⟩:=parts_ok m0 hw
   rcases q with ⟨_,rfl,rfl,rfl,rfl⟩ | ⟨_,n1,t1,t2⟩
   · exact ⟨x,t,y,xt,yt,xh,yh,[],_,c,⟨Wt.nil hw,mx,my,q3,e1,e2 ▸ zou _ _,q1,q2,al.inv.1.old,al.inv.2.old,by simp⟩⟩
   · obtain ⟨a1,rfl,b1,c1⟩:=t1.ac al.inv.2
     obtain ⟨a2,rfl,b2,c2⟩:=t2.ac (al.inv.1.old (n:=n) (a:=a1))
     refine ⟨x,t,y,xt,yt,xh,yh,a1++a2,S',c,⟨?_,mx,my,q3,e1,e2 ▸ zou _ _,q1,q2,b1.app,b2.two,by rw [List.length_append];omega⟩⟩
     have e:n + (a1.length:Int) + a2.length=n + ((a1++a2).length:Nat):=by rw [List.length_append];omega
     unfold Wt;rw [← e];exact w
theorem ge_e (x y:Nat):opGe (.int x) (.int y)=some (.bl (decide (y≤x))):=congrArg (fun b=>some (D.bl b)) (decide_eq_decide.mpr Int.ofNat_le)
theorem gt_e (x y:Nat):opGt (.int x) (.int y)=some (.bl (decide (y < x))):=congrArg (fun b=>some (D.bl b)) (decide_eq_decide.mpr Int.ofNat_lt)
theorem len3 (a b c:List D):(a++t::b).length + 1 + c.length=a.length + 1 + (b++x::c).length:=by simp only [List.length_append,List.length_cons];omega
theorem app3 (a b c:List D):a++t::(b++x::c)=a++t::b++x::c:=by simp
theorem len_l {a b:List D}{m:Nat} (h:(a++t::b).length + 1 + m≤2000):b.length + 1 + m≤2000:=by simp only [List.length_append,List.length_cons] at h;omega
theorem len_r {a b:List D}{m:Nat} (h:m + 1 + (a++t::b).length≤2000):m + 1 + a.length≤2000:=by simp only [List.length_append,List.length_cons] at h;omega
theorem few2 {a:List D} (h:a.length≤2):(a++[x]++[y]).length≤7:=by simp only [List.length_append,List.length_cons,List.length_nil];omega
theorem few5 {a b:List D} (h:a.length≤2) (h':b.length≤2):(a++b++[x]++[y]++[t]).length≤7:=by simp only [List.length_append,List.length_cons,List.length_nil];omega
theorem few9 {a b c:List D}{f:Nat} (h:a.length≤2) (h':b.length≤9 * f + 1) (h3:c.length≤7):(a++b++c).length≤9 * (f + 1) + 1:=by simp only [List.length_append];omega
theorem len_a {a b c:List D}{m:Nat} (h:(a++t::(b++x::c)).length + 1 + m≤2000):a.length + 1 + b.length≤2000:=by simp only [List.length_append,List.length_cons] at h;omega
theorem len_b {a b c:List D}{m:Nat} (h:(a++t::(b++x::c)).length + 1 + m≤2000):c.length + 1 + m≤2000:=by simp only [List.length_append,List.length_cons] at h;omega
theorem len_c {a b c e:List D} (h:(a++t::(b++x::c)).length + 1 + e.length≤2000):(a++t::b).length + 1 + (c++y::e).length≤2000:=by simp only [List.length_append,List.length_cons] at h ⊢;omega
theorem len_d {a b c:List D}{m:Nat} (h:m + 1 + (a++t::b++x::c).length≤2000):m + 1 + a.length≤2000:=by simp only [List.length_append,List.length_cons] at h;omega
theorem len_e {a b c:List D}{m:Nat} (h:m + 1 + (a++t::b++x::c).length≤2000):b.length + 1 + c.length≤2000:=by simp only [List.length_append,List.length_cons] at h;omega
theorem len_f {a b c e:List D} (h:e.length + 1 + (a++t::b++x::c).length≤2000):(e++y::a).length + 1 + (b++x::c).length≤2000:=by simp only [List.length_append,List.length_cons] at h ⊢;omega
theorem app5 (a b c e:List D):a++t::b++x::(c++y::e)=a++t::(b++x::c)++y::e:=by simp
theorem app6 (a b c e:List D):a++t::b++x::(c++y::e)=a++t::(b++x::c++y::e):=by simp
theorem up1 {xh yh rh lh:Nat} (hh:lh=rh + 2) (p:Top xh yh lh) (q1:xh≤yh + 1) (q2:yh≤xh + 1) (hg:yh≤xh):yh≤rh + 1∧rh≤yh + 1∧∀g,Top yh rh g→(xh≤g + 1∧g≤xh + 1∧∀z,Top xh g z→lh≤z∧z≤lh + 1):=by
 obtain ⟨p1,p2,p3⟩:=p
 refine ⟨by omega,by omega,fun g ⟨g1,g2,g3⟩=>⟨by omega,by omega,fun z ⟨z1,z2,z3⟩=>⟨by omega,by omega⟩⟩⟩
theorem up2 {xh yh rh lh xh' yh':Nat} (hh:lh=rh + 2) (p:Top xh yh lh) (q1:xh≤yh + 1) (q2:yh≤xh + 1) (hg:¬ yh≤xh) (p':Top xh' yh' yh) (q3:xh'≤yh' + 1) (q4:yh'≤xh' + 1) :
   (xh≤xh' + 1∧xh'≤xh + 1)∧(yh'≤rh + 1∧rh≤yh' + 1)∧∀g g',Top xh xh' g→Top yh' rh g'→(g≤g' + 1∧g'≤g + 1∧∀z,Top g g' z→lh≤z∧z≤lh + 1):=by
 obtain ⟨p1,p2,p3⟩:=p
 obtain ⟨p4,p5,p6⟩:=p'
 have e1:xh=rh:=by omega
 have e2:yh=rh + 1:=by omega
 subst e1 e2
 refine ⟨⟨by omega,by omega⟩,⟨by omega,by omega⟩,fun g g' ⟨g1,g2,g3⟩ ⟨g4,g5,g6⟩=>?_⟩
 have e3:g=xh + 1:=by omega
 have e4:g'=xh + 1:=by omega
 subst e3 e4
 exact ⟨by omega,by omega,fun z ⟨z1,z2,z3⟩=>⟨by omega,by omega⟩⟩
theorem Top.sym {a b h:Nat} (p:Top a b h):Top b a h:=⟨p.r,p.l,p.e.symm⟩
theorem zjt (hw:S[i]? = some (wd (addv k) n)) (ml:Mk k l lt lh) (mr:Mk k r rt rh) (ht:Thing k t) (hh:lh=rh + 2) (hn:lt.length + 1 + rt.length≤2000) (al:All P l) (ar:All P r) :
   ∃d h new S',zcy [.obj i,l,t,r] S=some (d,S')∧Res k i S n P (lt++t::rt) d h new S'∧(lh≤h∧h≤lh + 1)∧new.length≤7:=by
 obtain ⟨x,u,y,xt,yt,xh,yh,w1,S1,c1,p⟩:=zes ml (by omega) hw al
 have e1:=p.hts
 subst e1
 have e2:=p.hh
 have f1:=p.few
 by_cases hg:yh≤xh
 · obtain ⟨k1,k2,k3⟩:=up1 hh p.hh p.h1 p.h2 hg
   have hge:opGe (.int xh) (.int yh)=some (.bl true):=by rw [ge_e,decide_eq_true hg]
   clear hg
   obtain ⟨d1,S2,g1,c2,r2,t2⟩:=zef p.wt.at_ p.my mr ht k1 k2 (len_l hn) p.ay ar.old
   have r2:=r2.after p.wt
   obtain ⟨k4,k5,k6⟩:=k3 _ t2
   obtain ⟨d2,S3,g2,c3,r3,t3⟩:=zef r2.wt.at_ p.mx r2.mm p.ht k4 k5 (by rw [← len3];exact hn) p.ax.app r2.all
   have r3:=r3.after r2.wt
   exact ⟨d2,_,_,S3,b_rt rfl (zaf (zao (zag (a_c (e_v rfl) (a_c (e_v rfl) a_n)) c1)) (zbi (zbd (b_of (e_2 (zag (a_c (e_2s (e_v rfl) e_k rfl) a_n) (zbe p.mx S1)) (zag (a_c (e_2s (e_v rfl) e_k rfl) a_n) (zbe p.my S1)) hge)) (zau (zdd (e_v rfl) (zbl p.wt.at_) (zde _ _) (a_c (e_2s (e_v rfl) e_k rfl) (a_c (e_2s (e_v rfl) e_k rfl) (a_c (zdd (e_v rfl) (zbl p.wt.at_) (zde _ _) (a_c (e_2s (e_v rfl) e_k rfl) (a_c (e_v rfl) (a_c (e_v rfl) a_n))) c2) a_n))) c3))))),app3 xt yt rt ▸ r3,k6 _ t3,few2 f1⟩
 · have hge:opGe (.int xh) (.int yh)=some (.bl false):=by rw [ge_e,decide_eq_false hg]
   obtain ⟨x',v,y',xt',yt',xh',yh',w2,S2,c2,p2⟩:=zes p.my (by omega) p.wt.at_ p.ay
   have e3:=p2.hts
   subst e3
   obtain ⟨⟨k1,k2⟩,⟨k3,k4⟩,k5⟩:=up2 hh p.hh p.h1 p.h2 hg p2.hh p2.h1 p2.h2
   have f2:=p2.few
   clear hg e2
   have wt2:=p.wt.two p2.wt
   obtain ⟨d1,S3,g1,c3,r3,t3⟩:=zef wt2.at_ p.mx p2.mx p.ht k1 k2 (len_a hn) p.ax.app p2.ax.two
   have r3:=r3.after wt2
   obtain ⟨d2,S4,g2,c4,r4,t4⟩:=zef r3.wt.at_ p2.my mr ht k3 k4 (len_b hn) p2.ay.two.app ar.old
   have r4:=r4.after r3.wt
   obtain ⟨k6,k7,k8⟩:=k5 _ _ t3 t4
   obtain ⟨d3,S5,g3,c5,r5,t5⟩:=zef r4.wt.at_ r3.mm r4.mm p2.ht k6 k7 (len_c hn) r3.all.app r4.all
   have r5:=r5.after r4.wt
   exact ⟨d3,_,_,S5,b_rt rfl (zaf (zao (zag (a_c (e_v rfl) (a_c (e_v rfl) a_n)) c1)) (zaf (zaj (b_of (e_2 (zag (a_c (e_2s (e_v rfl) e_k rfl) a_n) (zbe p.mx S1)) (zag (a_c (e_2s (e_v rfl) e_k rfl) a_n) (zbe p.my S1)) hge))) (zaf (zao (zag (a_c (e_v rfl) (a_c (e_2s (e_v rfl) e_k rfl) a_n)) c2)) (zaf (zao (zdd (e_v rfl) (zbl wt2.at_) (zde _ _) (a_c (e_2s (e_v rfl) e_k rfl) (a_c (e_2s (e_v rfl) e_k rfl) (a_c (e_2s (e_v rfl) e_k rfl) a_n))) c3)) (zaf (zao (zdd (e_v rfl) (zbl r3.wt.at_) (zde _ _) (a_c (e_2s (e_v rfl) e_k rfl) (a_c (e_v rfl) (a_c (e_v rfl) a_n))) c4)) (zau (zdd (e_v rfl) (zbl r4.wt.at_) (zde _ _) (a_c (e_v rfl) (a_c (e_2s (e_v rfl) e_k rfl) (a_c (e_v rfl) a_n))) c5))))))),app5 xt xt' yt' rt ▸ r5,k8 _ t5,few5 f1 f2⟩
theorem zii (hw:S[i]? = some (wd (addv k) n)) (ml:Mk k l lt lh) (mr:Mk k r rt rh) (ht:Thing k t) (hh:rh=lh + 2) (hn:lt.length + 1 + rt.length≤2000) (al:All P l) (ar:All P r) :
   ∃d h new S',zcn [.obj i,l,t,r] S=some (d,S')∧Res k i S n P (lt++t::rt) d h new S'∧(rh≤h∧h≤rh + 1)∧new.length≤7:=by
 obtain ⟨x,u,y,xt,yt,xh,yh,w1,S1,c1,p⟩:=zes mr (by omega) hw ar
 have e1:=p.hts
 subst e1
 have e2:=p.hh
 have f1:=p.few
 by_cases hg:xh≤yh
 · obtain ⟨k1,k2,k3⟩:=up1 hh p.hh.sym p.h2 p.h1 hg
   have hge:opGe (.int yh) (.int xh)=some (.bl true):=by rw [ge_e,decide_eq_true hg]
   clear hg
   obtain ⟨d1,S2,g1,c2,r2,t2⟩:=zef p.wt.at_ ml p.mx ht k2 k1 (len_r hn) al.old p.ax
   have r2:=r2.after p.wt
   obtain ⟨k4,k5,k6⟩:=k3 _ t2.sym
   obtain ⟨d2,S3,g2,c3,r3,t3⟩:=zef r2.wt.at_ r2.mm p.my p.ht k5 k4 (by rw [len3];exact hn) r2.all p.ay.app
   have r3:=r3.after r2.wt
   exact ⟨d2,_,_,S3,b_rt rfl (zaf (zao (zag (a_c (e_v rfl) (a_c (e_v rfl) a_n)) c1)) (zbi (zbd (b_of (e_2 (zag (a_c (e_2s (e_v rfl) e_k rfl) a_n) (zbe p.my S1)) (zag (a_c (e_2s (e_v rfl) e_k rfl) a_n) (zbe p.mx S1)) hge)) (zau (zdd (e_v rfl) (zbl p.wt.at_) (zde _ _) (a_c (zdd (e_v rfl) (zbl p.wt.at_) (zde _ _) (a_c (e_v rfl) (a_c (e_v rfl) (a_c (e_2s (e_v rfl) e_k rfl) a_n))) c2) (a_c (e_2s (e_v rfl) e_k rfl) (a_c (e_2s (e_v rfl) e_k rfl) a_n))) c3))))),(app3 lt xt yt).symm ▸ r3,k6 _ t3.sym,few2 f1⟩
 · have hge:opGe (.int yh) (.int xh)=some (.bl false):=by rw [ge_e,decide_eq_false hg]
   obtain ⟨x',v,y',xt',yt',xh',yh',w2,S2,c2,p2⟩:=zes p.mx (by omega) p.wt.at_ p.ax
   have e3:=p2.hts
   subst e3
   obtain ⟨⟨k1,k2⟩,⟨k3,k4⟩,k5⟩:=up2 hh p.hh.sym p.h2 p.h1 hg p2.hh.sym p2.h2 p2.h1
   have f2:=p2.few
   clear hg e2
   have wt2:=p.wt.two p2.wt
   obtain ⟨d1,S3,g1,c3,r3,t3⟩:=zef wt2.at_ ml p2.mx ht k4 k3 (len_d hn) al.old p2.ax.two
   have r3:=r3.after wt2
   obtain ⟨d2,S4,g2,c4,r4,t4⟩:=zef r3.wt.at_ p2.my p.my p.ht k2 k1 (len_e hn) p2.ay.two.app p.ay.app.app
   have r4:=r4.after r3.wt
   obtain ⟨k6,k7,k8⟩:=k5 _ _ t4.sym t3.sym
   obtain ⟨d3,S5,g3,c5,r5,t5⟩:=zef r4.wt.at_ r3.mm r4.mm p2.ht k7 k6 (len_f hn) r3.all.app r4.all
   have r5:=r5.after r4.wt
   exact ⟨d3,_,_,S5,b_rt rfl (zaf (zao (zag (a_c (e_v rfl) (a_c (e_v rfl) a_n)) c1)) (zaf (zaj (b_of (e_2 (zag (a_c (e_2s (e_v rfl) e_k rfl) a_n) (zbe p.my S1)) (zag (a_c (e_2s (e_v rfl) e_k rfl) a_n) (zbe p.mx S1)) hge))) (zaf (zao (zag (a_c (e_v rfl) (a_c (e_2s (e_v rfl) e_k rfl) a_n)) c2)) (zaf (zao (zdd (e_v rfl) (zbl wt2.at_) (zde _ _) (a_c (e_v rfl) (a_c (e_v rfl) (a_c (e_2s (e_v rfl) e_k rfl) a_n))) c3)) (zaf (zao (zdd (e_v rfl) (zbl r3.wt.at_) (zde _ _) (a_c (e_2s (e_v rfl) e_k rfl) (a_c (e_2s (e_v rfl) e_k rfl) (a_c (e_2s (e_v rfl) e_k rfl) a_n))) c4)) (zau (zdd (e_v rfl) (zbl r4.wt.at_) (zde _ _) (a_c (e_v rfl) (a_c (e_2s (e_v rfl) e_k rfl) (a_c (e_v rfl) a_n))) c5))))))),app6 lt xt' yt' yt ▸ r5,k8 _ t5.sym,few5 f1 f2⟩
structure Hi (a b h:Nat):Prop where
 l:a≤h
 r:b≤h
 m:∀z,a≤z→b≤z→h≤z + 1
theorem Top.hi {a b h:Nat} (p:Top a b h):Hi a b h:=⟨Nat.le_of_lt p.l,Nat.le_of_lt p.r,fun z h1 h2=>by rcases p.e with rfl | rfl <;> omega⟩
theorem zgg (hw:S[i]? = some (wd (addv k) n)) (ml:Mk k l lt lh) (mr:Mk k r rt rh) (ht:Thing k t) (h1:lh≤rh + 2) (h2:rh≤lh + 2) (hn:lt.length + 1 + rt.length≤2000) (al:All P l) (ar:All P r) :
   ∃d h new S',zcf [.obj i,l,t,r] S=some (d,S')∧Res k i S n P (lt++t::rt) d h new S'∧Hi lh rh h∧(lh≤rh + 1→rh≤lh + 1→Top lh rh h)∧new.length≤7:=by
 have bl:=zek ml mr S
 by_cases hb:lh≤rh + 1∧rh≤lh + 1
 · rw [decide_eq_true hb] at bl
   obtain ⟨d1,S1,g1,c1,r1,t1⟩:=zef hw ml mr ht hb.1 hb.2 hn al ar
   exact ⟨d1,_,_,S1,b_rt rfl (zbi (zbd (b_of (zag (a_c (e_v rfl) (a_c (e_v rfl) a_n)) bl)) (zau (zdd (e_v rfl) (zbl hw) (zde _ _) (a_c (e_v rfl) (a_c (e_v rfl) (a_c (e_v rfl) a_n))) c1)))),r1,t1.hi,fun _ _=>t1,Nat.le_of_ble_eq_true rfl⟩
 · rw [decide_eq_false hb] at bl
   by_cases hg:rh < lh
   · have e:lh=rh + 2:=by omega
     obtain ⟨d1,h,w,S1,c1,r1,⟨q1,q2⟩,q3⟩:=zjt hw ml mr ht e hn al ar
     exact ⟨d1,h,w,S1,b_rt rfl (zaf (zaj (b_of (zag (a_c (e_v rfl) (a_c (e_v rfl) a_n)) bl))) (zbi (zbd (b_of (e_2 (zag (a_c (e_v rfl) a_n) (zbe ml S)) (zag (a_c (e_v rfl) a_n) (zbe mr S)) (by rw [gt_e,decide_eq_true hg]))) (zau (zag (a_c (e_v rfl) (a_c (e_v rfl) (a_c (e_v rfl) (a_c (e_v rfl) a_n)))) c1))))),r1,⟨q1,Nat.le_trans (Nat.le_of_lt hg) q1,fun z z1 z2=>Nat.le_trans q2 (Nat.succ_le_succ z1)⟩,fun u v=>absurd ⟨u,v⟩ hb,q3⟩
   · have e:rh=lh + 2:=by omega
     obtain ⟨d1,h,w,S1,c1,r1,⟨q1,q2⟩,q3⟩:=zii hw ml mr ht e hn al ar
     exact ⟨d1,h,w,S1,b_rt rfl (zaf (zaj (b_of (zag (a_c (e_v rfl) (a_c (e_v rfl) a_n)) bl))) (zaf (zaj (b_of (e_2 (zag (a_c (e_v rfl) a_n) (zbe ml S)) (zag (a_c (e_v rfl) a_n) (zbe mr S)) (by rw [gt_e,decide_eq_false hg])))) (zau (zag (a_c (e_v rfl) (a_c (e_v rfl) (a_c (e_v rfl) (a_c (e_v rfl) a_n)))) c1)))),r1,⟨Nat.le_trans (Nat.not_lt.mp hg) q1,q1,fun z z1 z2=>Nat.le_trans q2 (Nat.succ_le_succ z2)⟩,fun u v=>absurd ⟨u,v⟩ hb,q3⟩
theorem dn1 {a b h z c:Nat} (p:Top a b h) (q1:a≤b + 1) (q2:b≤a + 1) (hz:z + 2≤h) (j:Hi b z c):a≤c + 2∧c≤a + 2:=by
 obtain ⟨p1,p2,p3⟩:=p
 have:=j.l
 have:=j.m (b) (Nat.le_refl _) (by omega)
 omega
theorem dn2 {a b h z c g:Nat} (p:Top a b h) (q1:a≤b + 1) (q2:b≤a + 1) (hz:z + 2≤h) (j:Hi b z c) (q:Hi a c g) (w:a≤c + 1→c≤a + 1→Top a c g):Hi h z g:=by
 obtain ⟨p1,p2,p3⟩:=p
 have c1:=j.l
 have c2:=j.m b (Nat.le_refl _) (by omega)
 have g1:=q.l
 have g2:=q.r
 have:h≤g∧g≤h + 1:=by
   by_cases hb:a≤c + 1∧c≤a + 1
   · obtain ⟨w1,w2,w3⟩:=w hb.1 hb.2
     omega
   · have g3:=q.m c (by omega) (Nat.le_refl _)
     omega
 exact ⟨this.1,by omega,fun y y1 _=>Nat.le_trans this.2 (Nat.succ_le_succ y1)⟩
theorem dn3 {a b h z f:Nat} (p:Top a b h) (q1:a≤b + 1) (q2:b≤a + 1) (hz:z + 2≤h) (hf:h≤z + (f + 1)):b≤z + f∧z≤b + f:=by
 obtain ⟨p1,p2,p3⟩:=p
 omega
theorem Hi.sym {a b h:Nat} (p:Hi a b h):Hi b a h:=⟨p.r,p.l,fun z u v=>p.m z v u⟩
theorem zex:∀(f c:Nat) {l r:D}{lt rt:List D}{lh rh:Nat}{n:Int}{S:Sto}{P:D→Prop},S[i]? = some (wd (addv k) n)→Mk k l lt lh→Mk k r rt rh→Thing k t→lt.length + 1 + rt.length≤2000→All P l→All P r→lh≤rh + c→rh≤lh + c→c < f →
   ∃d h new S',zcz f [.obj i,l,t,r] S=some (d,S')∧Res k i S n P (lt++t::rt) d h new S'∧Hi lh rh h∧(lh≤rh + 1→rh≤lh + 1→Top lh rh h)∧new.length≤9 * c + 1
 | 0,_,_,_,_,_,_,_,_,_,_,_,_,_,_,_,_,_,_,_,hf=>absurd hf (Nat.not_lt_zero _)
 | f + 1,c,l,r,lt,rt,lh,rh,n,S,P,hw,ml,mr,ht,hn,al,ar,hc1,hc2,hf=>by
   have bl:=zek ml mr S
   by_cases hb:lh≤rh + 1∧rh≤lh + 1
   · rw [decide_eq_true hb] at bl
     obtain ⟨d1,S1,g1,c1,r1,t1⟩:=zef hw ml mr ht hb.1 hb.2 hn al ar
     exact ⟨d1,_,_,S1,b_rt rfl (zbi (zbd (b_of (zag (a_c (e_v rfl) (a_c (e_v rfl) a_n)) bl)) (zau (zdd (e_v rfl) (zbl hw) (zde _ _) (a_c (e_v rfl) (a_c (e_v rfl) (a_c (e_v rfl) a_n))) c1)))),r1,t1.hi,fun _ _=>t1,Nat.le_add_left _ _⟩
   · rw [decide_eq_false hb] at bl
     cases c with
     | zero=>omega
     | succ c =>
       by_cases hg:rh < lh
       · have hz:rh + 2≤lh:=by omega
         clear hc2
         obtain ⟨x,u,y,xt,yt,xh,yh,w1,S1,c1,p⟩:=zes ml (Nat.lt_of_le_of_lt (Nat.zero_le _) hg) hw al
         have e1:=p.hts
         subst e1
         obtain ⟨k1,k2⟩:=dn3 p.hh p.h1 p.h2 hz hc1
         obtain ⟨d1,g1,w2,S2,c2,r2,b1,b0,b2⟩:=zex f c p.wt.at_ p.my mr ht (len_l hn) p.ay ar.old k1 k2 (Nat.lt_of_succ_lt_succ hf)
         have r2:=r2.after p.wt
         obtain ⟨k3,k4⟩:=dn1 p.hh p.h1 p.h2 hz b1
         obtain ⟨d2,g2,w3,S3,c3,r3,b5,b6,b7⟩:=zgg r2.wt.at_ p.mx r2.mm p.ht k3 k4 (by rw [← len3];exact hn) p.ax.app r2.all
         have r3:=r3.after r2.wt
         exact ⟨d2,g2,_,S3,b_rt rfl (zaf (zaj (b_of (zag (a_c (e_v rfl) (a_c (e_v rfl) a_n)) bl))) (zbi (zbd (b_of (e_2 (zag (a_c (e_v rfl) a_n) (zbe ml S)) (zag (a_c (e_v rfl) a_n) (zbe mr S)) (by rw [gt_e,decide_eq_true hg]))) (zaf (zao (zag (a_c (e_v rfl) (a_c (e_v rfl) a_n)) c1)) (zau (zag (a_c (e_v rfl) (a_c (e_2s (e_v rfl) e_k rfl) (a_c (e_2s (e_v rfl) e_k rfl) (a_c (zag (a_c (e_v rfl) (a_c (e_2s (e_v rfl) e_k rfl) (a_c (e_v rfl) (a_c (e_v rfl) a_n)))) c2) a_n)))) c3)))))),app3 xt yt rt ▸ r3,dn2 p.hh p.h1 p.h2 hz b1 b5 b6,fun u v=>absurd ⟨u,v⟩ hb,few9 p.few b2 b7⟩
       · have hz:lh + 2≤rh:=by omega
         clear hc1
         obtain ⟨x,u,y,xt,yt,xh,yh,w1,S1,c1,p⟩:=zes mr (Nat.lt_of_lt_of_le (by decide) (Nat.le_trans (Nat.le_add_left 2 lh) hz)) hw ar
         have e1:=p.hts
         subst e1
         obtain ⟨k1,k2⟩:=dn3 p.hh.sym p.h2 p.h1 hz hc2
         obtain ⟨d1,g1,w2,S2,c2,r2,b1,b0,b2⟩:=zex f c p.wt.at_ ml p.mx ht (len_r hn) al.old p.ax k2 k1 (Nat.lt_of_succ_lt_succ hf)
         have r2:=r2.after p.wt
         obtain ⟨k3,k4⟩:=dn1 p.hh.sym p.h2 p.h1 hz b1.sym
         obtain ⟨d2,g2,w3,S3,c3,r3,b5,b6,b7⟩:=zgg r2.wt.at_ r2.mm p.my p.ht k4 k3 (by rw [len3];exact hn) r2.all p.ay.app
         have r3:=r3.after r2.wt
         exact ⟨d2,g2,_,S3,b_rt rfl (zaf (zaj (b_of (zag (a_c (e_v rfl) (a_c (e_v rfl) a_n)) bl))) (zaf (zaj (b_of (e_2 (zag (a_c (e_v rfl) a_n) (zbe ml S)) (zag (a_c (e_v rfl) a_n) (zbe mr S)) (by rw [gt_e,decide_eq_false hg])))) (zaf (zao (zag (a_c (e_v rfl) (a_c (e_v rfl) a_n)) c1)) (zau (zag (a_c (e_v rfl) (a_c (zag (a_c (e_v rfl) (a_c (e_v rfl) (a_c (e_v rfl) (a_c (e_2s (e_v rfl) e_k rfl) a_n)))) c2) (a_c (e_2s (e_v rfl) e_k rfl) (a_c (e_2s (e_v rfl) e_k rfl) a_n)))) c3))))),(app3 lt xt yt).symm ▸ r3,(dn2 p.hh.sym p.h2 p.h1 hz b1.sym b5.sym fun u v=>(b6 v u).sym).sym,fun u v=>absurd ⟨u,v⟩ hb,few9 p.few b2 b7⟩
end Pg
set_option maxHeartbeats 4000000
namespace Pg
open PySem L2 F Mt
variable {k:Nat} [Kd k] {d l r t x y:D}{ts lt rt:List D}{h lh rh i:Nat}{n:Int}{S S0 S1:Sto}{ev e:Ev}{P Q:D→Prop}{a b new:List D}
theorem lt_e (x y:Nat):opLt (.int x) (.int y)=some (.bl (decide (x < y))):=congrArg (fun b=>some (D.bl b)) (decide_eq_decide.mpr Int.ofNat_lt)
theorem le_e (x y:Nat):opLe (.int x) (.int y)=some (.bl (decide (x≤y))):=congrArg (fun b=>some (D.bl b)) (decide_eq_decide.mpr Int.ofNat_le)
theorem lt_T {x y:Nat} (h:x < y):opLt (.int x) (.int y)=some (.bl true):=by rw [lt_e,decide_eq_true h]
theorem lt_F {x y:Nat} (h:¬ x < y):opLt (.int x) (.int y)=some (.bl false):=by rw [lt_e,decide_eq_false h]
theorem le_T {x y:Nat} (h:x≤y):opLe (.int x) (.int y)=some (.bl true):=by rw [le_e,decide_eq_true h]
theorem le_F {x y:Nat} (h:¬ x≤y):opLe (.int x) (.int y)=some (.bl false):=by rw [le_e,decide_eq_false h]
theorem gt_T {x y:Nat} (h:y < x):opGt (.int x) (.int y)=some (.bl true):=by rw [gt_e,decide_eq_true h]
theorem gt_F {x y:Nat} (h:¬ y < x):opGt (.int x) (.int y)=some (.bl false):=by rw [gt_e,decide_eq_false h]
theorem eq_T {x y:Nat} (h:x=y):opEq (.int x) (.int y)=some (.bl true):=by rw [eq_int,h];simp
theorem eq_F {x y:Nat} (h:x≠y):opEq (.int x) (.int y)=some (.bl false):=by
 rw [eq_int];simp;omega
theorem e_sub2 {f g:E}{p m q:Nat} (hf:f ev S=some (.int p,S)) (hg:g ev S=some (.int m,S)) (hq:p=m + 1 + q):e2 zet (e2 zet f g) (eK (.int 1)) ev S=some (.int q,S) :=
 e_2 (e_2 hf hg (sub_int _ _)) e_k (by rw [sub_int,show (p:Int) - m - 1=q by omega])
def HB (m h:Nat):Prop:=m < 2 ^ h∧2 ^ h≤2 * m + 1
theorem hb_step {m a b:Nat} (hm:0 < m) (ha:HB (m / 2) a) (hb:HB ((m - 1) / 2) b):a≤b + 1∧b≤a + 1∧∀h,Top a b h→HB m h:=by
 obtain ⟨a1,a2⟩:=ha
 obtain ⟨b1,b2⟩:=hb
 have h1:b≤a:=by
   rcases Nat.lt_or_ge a b with q | q
   · have:=Nat.pow_le_pow_right (n:=2) (by decide) (show a + 1≤b from q)
     rw [Nat.pow_succ] at this
     omega
   · exact q
 have h2:a≤b + 1:=by
   rcases Nat.lt_or_ge (b + 1) a with q | q
   · have:=Nat.pow_le_pow_right (n:=2) (by decide) (show b + 1 + 1≤a from q)
     rw [Nat.pow_succ,Nat.pow_succ] at this
     omega
   · exact q
 refine ⟨h2,by omega,fun h ⟨_,_,e⟩=>?_⟩
 have e:h=a + 1:=by omega
 subst e
 unfold HB
 rw [Nat.pow_succ]
 cases a with
 | zero=>rw [Nat.pow_zero] at a1 a2 ⊢;omega
 | succ a=>rw [Nat.pow_succ] at a1 a2 ⊢;omega
theorem at_mid (p a c:List D):atI (p++a++t::c) (((p.length + a.length:Nat)):Int)=some t:=zqd (by rw [List.getElem?_append_right (by simp),List.length_append];simp)
theorem halves:∀{ts:List D},ts≠[]→∃a t b,ts=a++t::b∧a.length=ts.length / 2∧b.length=(ts.length - 1) / 2:=fun {ts} h=>by
 have hl:0 < ts.length:=List.length_pos_iff.mpr h
 have hm:ts.length / 2 < ts.length:=by omega
 refine ⟨ts.take (ts.length / 2),ts[ts.length / 2],ts.drop (ts.length / 2 + 1),?_,?_,?_⟩
 · rw [← List.drop_eq_getElem_cons hm,List.take_append_drop]
 · rw [List.length_take];omega
 · rw [List.length_drop];omega
theorem zmt:∀(f:Nat) {p ts q:List D}{n:Int}{S:Sto}{P:D→Prop},S[i]? = some (wd (addv k) n)→(∀x∈ts,Thing k x)→ts.length≤2000→ts.length < 2 ^ f→∀{s e:Nat},s=p.length→e=p.length + ts.length →
   ∃d h new S',zhc (f + 1) [.obj i,.lst (p++ts++q),.int s,.int e] S=some (d,S')∧Res k i S n P ts d h new S'∧HB ts.length h
 | f,p,ts,q,n,S,P,hw,ht,hl,hf,s,e,hs,he=>by
   by_cases h0:ts=[]
   · subst h0
     refine ⟨.non,0,[],S,b_rt rfl (zbi (zbd (b_of (e_2 (e_v rfl) (e_v rfl) (eq_T (by simp [hs,he])))) (zau e_k))),⟨.non,Wt.nil hw,.non⟩,by decide,by decide⟩
   · obtain ⟨a,t,b,e0,la,lb⟩:=halves h0
     have hlen:0 < ts.length:=List.length_pos_iff.mpr h0
     cases f with
     | zero=>rw [Nat.pow_zero] at hf;omega
     | succ f =>
       rw [Nat.pow_succ] at hf
       obtain ⟨d1,h1,w1,S1,c1,r1,b1⟩:=zmt f (p:=p) (ts:=a) (q:=t::b++q) (P:=P) hw (fun x hx=>ht x (by rw [e0];exact List.mem_append_left _ hx)) (by omega) (by omega) hs rfl
       obtain ⟨d2,h2,w2,S2,c2,r2,b2⟩:=zmt f (p:=p++a++[t]) (ts:=b) (q:=q) (P:=Ac P n w1) r1.wt.at_ (fun x hx=>ht x (by rw [e0];exact List.mem_append_right _ (List.mem_cons_of_mem _ hx))) (by omega) (by omega) (s:=p.length + a.length + 1) (e:=e) (by simp;omega) (by simp;omega)
       have r2:=r2.after r1.wt
       rw [la] at b1
       rw [lb] at b2
       obtain ⟨q1,q2,q3⟩:=hb_step hlen b1 b2
       have e1:p++a++(t::b++q)=p++ts++q:=by rw [e0];simp
       have e2:p++a++[t]++b++q=p++ts++q:=by rw [e0];simp
       have e3:p++ts++q=p++a++t::(b++q):=by rw [e0];simp
       rw [e1] at c1
       rw [e2] at c2
       obtain ⟨d3,S3,h3,c3,r3,t3⟩:=zef r2.wt.at_ r1.mm r2.mm (ht t (by rw [e0];simp)) q1 q2 (by omega) r1.all.app r2.all
       have r3:=r3.after r2.wt
       rw [← e0] at r3
       have em:zjs (.int ((s:Int) + e)) (.int 2)=some (.int ((p.length + a.length:Nat):Int)):=by rw [div_e (by decide),show ((s:Int) + e) / 2=((p.length + a.length:Nat):Int) by omega]
       exact ⟨d3,h3,_,S3,b_rt rfl (zaf (zaj (b_of (e_2 (e_v rfl) (e_v rfl) (eq_F (by omega))))) (zaf (zao (e_2 (e_2 (e_v rfl) (e_v rfl) (add_int _ _)) e_k em)) (zaf (zao (zag (a_c (e_v rfl) (a_c (e_v rfl) (a_c (e_v rfl) (a_c (e_v rfl) a_n)))) c1)) (zaf (zao (zag (a_c (e_v rfl) (a_c (e_v rfl) (a_c (e_2 (e_v rfl) e_k (add_int _ _)) (a_c (e_v rfl) a_n)))) c2)) (zau (zdd (e_v rfl) (zbl r2.wt.at_) (zde _ _) (a_c (e_v rfl) (a_c (e_2s (e_v rfl) (e_v rfl) (by rw [e3];exact at_mid _ _ _)) (a_c (e_v rfl) a_n))) c3)))))),r3,q3 _ t3⟩
theorem zhb (hw:S[i]? = some (wd (addv k) n)) (ht:∀x∈ts,Thing k x) (hl:ts.length≤2000):∃d h new S',zdu [.obj i,.lst ts] S=some (d,S')∧Res k i S n P ts d h new S':=by
 obtain ⟨d,h,new,S1,c,r,_⟩:=zmt (i:=i) (k:=k) 39 (p:=[]) (ts:=ts) (q:=[]) (P:=P) hw ht hl (Nat.lt_of_le_of_lt hl (by decide)) (s:=0) (e:=ts.length) rfl (by simp)
 rw [List.nil_append,List.append_nil] at c
 exact ⟨d,h,new,S1,b_rt rfl (zaf (zfy (zag (a_c (e_a (a_c (e_v rfl) a_n) rfl) a_n) (zvb hl S))) (zau (zag (a_c (e_v rfl) (a_c (e_v rfl) (a_c e_k (a_c (e_a (a_c (e_v rfl) a_n) rfl) a_n)))) c))),r⟩
theorem eq_bl (a b:Bool):opEq (.bl a) (.bl b)=some (.bl (a == b)):=rfl
structure Seen (k:Nat) (us:List D) (h:Nat) (x t y:D) (c:Bool) (xt yt:List D) (xh yh:Nat):Prop where
 mx:Mk k x xt xh
 my:Mk k y yt yh
 ht:Thing k t
 hu:us=ord c xt++t::ord c yt
 hx:xh < h
 hy:yh < h
theorem zoy (m:Mk k d ts h) (hh:0 < h) (b:Bool) (S:Sto):∃x t y c xt yt xh yh,zey [d,.bl b] S=some (.tup [x,t,y,.bl c],S)∧Seen k (ord b ts) h x t y c xt yt xh yh:=by
 cases m with
 | non=>omega
 | @node num a l t r lt rt lh rh ml mr ht h1 h2 =>
   unfold mkD
   by_cases e:a=b
   · subst e
     exact ⟨l,t,r,false,lt,rt,lh,rh,b_rt rfl (zbi (zbd (b_of (e_2 (e_2s (e_v rfl) e_k rfl) (e_v rfl) (by rw [eq_bl];simp))) (zau (zgc (a_c (e_2s (e_v rfl) e_k rfl) (a_c (e_2s (e_v rfl) e_k rfl) (a_c (e_2s (e_v rfl) e_k rfl) (a_c e_k a_n)))) (Nat.le_of_ble_eq_true rfl))))),ml,mr,ht,by cases a <;> simp [ord],by omega,by omega⟩
   · exact ⟨r,t,l,true,rt,lt,rh,lh,b_rt rfl (zaf (zaj (b_of (e_2 (e_2s (e_v rfl) e_k rfl) (e_v rfl) (by rw [eq_bl];simp [e])))) (zau (zgc (a_c (e_2s (e_v rfl) e_k rfl) (a_c (e_2s (e_v rfl) e_k rfl) (a_c (e_2s (e_v rfl) e_k rfl) (a_c e_k a_n)))) (Nat.le_of_ble_eq_true rfl)))),mr,ml,ht,by cases a <;> cases b <;> simp_all [ord],by omega,by omega⟩
theorem zif (m:Mk k d ts h) (hl:ts≠[]):0 < h:=by
 cases m with
 | non=>exact absurd rfl hl
 | node _ _ _ _ _=>omega
theorem ne_of {p:Nat} (h:ts[p]? = some x):ts≠[]:=fun e=>by rw [e] at h;cases h
theorem ord_ne {c:Bool} (h:ord c ts≠[]):ts≠[]:=fun e=>h (by rw [e];cases c <;> rfl)
theorem zeh:∀(f:Nat) {d:D}{ts:List D}{h p:Nat}{b:Bool},Mk k d ts h→h≤f→(ord b ts)[p]? = some x→∀S,zcc f [d,.bl b,.int p] S=some (x,S)
 | 0,d,ts,h,p,b,m,hf,hp,S=>absurd (zif m (ord_ne (ne_of hp))) (Nat.not_lt.mpr hf)
 | f + 1,d,ts,h,p,b,m,hf,hp,S=>by
   obtain ⟨u,t,y,c,xt,yt,xh,yh,c1,s⟩:=zoy m (zif m (ord_ne (ne_of hp))) b S
   have hu:=s.hu
   rw [hu] at hp
   have lx:=zdn c xt
   have hx:=s.hx
   have hy:=s.hy
   have c2:=zdq s.mx S
   by_cases h1:p < xt.length
   · rw [List.getElem?_append_left (by omega)] at hp
     exact b_rt rfl (zaf (zao (zag (a_c (e_v rfl) (a_c (e_v rfl) a_n)) c1)) (zaf (zao (zag (a_c (e_2s (e_v rfl) e_k rfl) a_n) c2)) (zbi (zbd (b_of (e_2 (e_v rfl) (e_v rfl) (lt_T h1))) (zau (zag (a_c (e_2s (e_v rfl) e_k rfl) (a_c (e_2s (e_v rfl) e_k rfl) (a_c (e_v rfl) a_n))) (zeh f s.mx (by omega) hp S)))))))
   · rw [List.getElem?_append_right (by omega),lx] at hp
     by_cases h2:xt.length < p
     · have e:p=xt.length + 1 + (p - xt.length - 1):=by omega
       rw [show p - xt.length=(p - xt.length - 1) + 1 by omega,List.getElem?_cons_succ] at hp
       exact b_rt rfl (zaf (zao (zag (a_c (e_v rfl) (a_c (e_v rfl) a_n)) c1)) (zaf (zao (zag (a_c (e_2s (e_v rfl) e_k rfl) a_n) c2)) (zaf (zaj (b_of (e_2 (e_v rfl) (e_v rfl) (lt_F h1)))) (zbi (zbd (b_of (e_2 (e_v rfl) (e_v rfl) (gt_T h2))) (zau (zag (a_c (e_2s (e_v rfl) e_k rfl) (a_c (e_2s (e_v rfl) e_k rfl) (a_c (e_sub2 (e_v rfl) (e_v rfl) e) a_n))) (zeh f s.my (by omega) hp S))))))))
     · rw [show p - xt.length=0 by omega,List.getElem?_cons_zero] at hp
       cases hp
       exact b_rt rfl (zaf (zao (zag (a_c (e_v rfl) (a_c (e_v rfl) a_n)) c1)) (zaf (zao (zag (a_c (e_2s (e_v rfl) e_k rfl) a_n) c2)) (zaf (zaj (b_of (e_2 (e_v rfl) (e_v rfl) (lt_F h1)))) (zaf (zaj (b_of (e_2 (e_v rfl) (e_v rfl) (gt_F h2)))) (zau (e_2s (e_v rfl) e_k rfl))))))
end Pg
set_option maxHeartbeats 4000000
namespace Pg
open PySem L2 F Mt
variable {k:Nat} [Kd k] {d l r t x y:D}{ts lt rt:List D}{h lh rh i:Nat}{n:Int}{S S0 S1:Sto}{ev e:Ev}{P Q:D→Prop}{a b new:List D}
theorem mk_nil (m:Mk k d [] h):d=.non∧h=0:=by
 generalize e:([]:List D)=ts at m
 cases m with
 | non=>exact ⟨rfl,rfl⟩
 | node _ _ _ _ _=>exact absurd (congrArg List.length e) (by rw [zdn];simp)
theorem h15 (m:Mk k d ts h) (hl:ts.length≤2000):h≤15:=by
 have q:=mk_low m
 rcases Nat.lt_or_ge 15 h with z | z
 · have:low 16≤low h:=zlo z
   have e:low 16=2583:=by decide
   omega
 · exact z
theorem o1 {xh yh h g:Nat} (p:Top xh yh h) (q1:xh≤yh + 1) (q2:yh≤xh + 1) (g1:g≤xh) (g2:xh≤g + 1):(g≤yh + 2∧yh≤g + 2)∧∀z,Hi g yh z→(g≤yh + 1→yh≤g + 1→Top g yh z)→z≤h∧h≤z + 1:=by
 obtain ⟨p1,p2,p3⟩:=p
 refine ⟨⟨by omega,by omega⟩,fun z hz ht=>?_⟩
 by_cases hb:g≤yh + 1∧yh≤g + 1
 · obtain ⟨t1,t2,t3⟩:=ht hb.1 hb.2
   omega
 · have:=hz.r
   have:=hz.m yh (by omega) (Nat.le_refl _)
   omega
theorem few_o {a b c:List D}{m xh yh h:Nat} (p:Top xh yh h) (h1:a.length≤2) (h2:b.length≤9 * xh + m) (h3:c.length≤7):(a++b++c).length≤9 * h + m:=by
 have:=p.l
 simp only [List.length_append];omega
theorem zvu:¬ (0:Nat) < 0:=by decide
theorem laid_n1 {self:G} (S:Sto):zcb self [.obj i,.non,y] S=some (y,S):=rfl
theorem zvp:∀(f:Nat) {d u:D}{rest:List D}{h:Nat}{n:Int}{S:Sto}{P:D→Prop},S[i]? = some (wd (addv k) n)→Mk k d (u::rest) h→rest.length < 2000→All P d→h≤f →
   ∃d' h' new S',zcs f [.obj i,d,.int (0:Nat)] S=some (d',S')∧Res k i S n P rest d' h' new S'∧(h'≤h∧h≤h' + 1)∧new.length≤9 * h
 | 0,_,_,_,_,_,_,_,_,m,_,_,hf=>absurd (zif m (by simp)) (Nat.not_lt.mpr hf)
 | f + 1,d,u,rest,h,n,S,P,hw,m,hl,al,hf=>by
   obtain ⟨x,v,y,xt,yt,xh,yh,w1,S1,c1,p⟩:=zes m (zif m (by simp)) hw al
   have e1:=p.hts
   have c2:=zdq p.mx S1
   cases xt with
   | nil =>
     obtain ⟨rfl,rfl⟩:=mk_nil p.mx
     simp only [List.nil_append,List.cons.injEq] at e1
     obtain ⟨rfl,rfl⟩:=e1
     have e:h=yh + 1:=by have:=p.hh.l;have:=p.hh.r;have:=p.hh.e;omega
     exact ⟨y,yh,w1,S1,b_rt rfl (zaf (zao (zag (a_c (e_v rfl) (a_c (e_v rfl) a_n)) c1)) (zaf (zao (zag (a_c (e_2s (e_v rfl) e_k rfl) a_n) c2)) (zaf (zaj (b_of (e_2 (e_v rfl) (e_v rfl) (lt_F zvu)))) (zaf (zaj (b_of (e_2 (e_v rfl) (e_v rfl) (gt_F zvu)))) (zau (zag (a_c (e_v rfl) (a_c (e_2s (e_v rfl) e_k rfl) (a_c (e_2s (e_v rfl) e_k rfl) a_n))) (laid_n1 S1))))))),⟨p.my,p.wt,p.ay⟩,⟨by omega,by omega⟩,by have:=p.few;omega⟩
   | cons u' xt =>
     simp only [List.cons_append,List.cons.injEq] at e1
     obtain ⟨rfl,rfl⟩:=e1
     simp only [List.length_append,List.length_cons] at hl
     have hx:=p.hh.l
     obtain ⟨d1,g,w2,S2,c3,r2,⟨b1,b2⟩,b3⟩:=zvp f p.wt.at_ p.mx (by omega) p.ax (by omega)
     have r2:=r2.after p.wt
     obtain ⟨⟨k1,k2⟩,k3⟩:=o1 p.hh p.h1 p.h2 b1 b2
     obtain ⟨d2,g2,w3,S3,c4,r3,b5,b6,b7⟩:=zgg r2.wt.at_ r2.mm p.my p.ht k1 k2 (by omega) r2.all p.ay.app
     have r3:=r3.after r2.wt
     exact ⟨d2,g2,_,S3,b_rt rfl (zaf (zao (zag (a_c (e_v rfl) (a_c (e_v rfl) a_n)) c1)) (zaf (zao (zag (a_c (e_2s (e_v rfl) e_k rfl) a_n) c2)) (zbi (zbd (b_of (e_2 (e_v rfl) (e_v rfl) (lt_T (Nat.zero_lt_succ _)))) (zau (zag (a_c (e_v rfl) (a_c (zag (a_c (e_v rfl) (a_c (e_2s (e_v rfl) e_k rfl) (a_c (e_v rfl) a_n))) c3) (a_c (e_2s (e_v rfl) e_k rfl) (a_c (e_2s (e_v rfl) e_k rfl) a_n)))) c4)))))),r3,k3 _ b5 b6,few_o (m:=0) p.hh p.few b3 b7⟩
theorem hi0 (h:Nat):Hi 0 h h:=⟨Nat.zero_le _,Nat.le_refl _,fun z _ q=>Nat.le_succ_of_le q⟩
theorem ld1 {lh rh g c:Nat} (g1:g≤rh) (g2:rh≤g + 1) (c1:lh≤rh + c) (c2:rh≤lh + c):lh≤g + (c + 1)∧g≤lh + (c + 1):=by omega
theorem ld2 {lh rh g z:Nat} (g1:g≤rh) (g2:rh≤g + 1) (h:Hi lh g z) (w:lh≤g + 1→g≤lh + 1→Top lh g z) (c1:lh≤rh + 1) (c2:rh≤lh + 1):Hi lh rh z:=by
 refine ⟨h.l,?_,fun y y1 y2=>h.m y y1 (by omega)⟩
 by_cases hb:lh≤g + 1∧g≤lh + 1
 · obtain ⟨t1,t2,t3⟩:=w hb.1 hb.2
   omega
 · have:=h.l
   omega
theorem zql (m:Mk k d ts h):(d=.non∧ts=[]∧h=0)∨((∃xs,d=.tup xs)∧∃u rest,ts=u::rest):=by
 cases m with
 | non=>exact .inl ⟨rfl,rfl,rfl⟩
 | @node num a l t r lt rt lh rh _ _ _ _ _ =>
   refine .inr ⟨⟨_,rfl⟩,?_⟩
   cases e:ord a (lt++t::rt) with
   | nil=>exact absurd (congrArg List.length e) (by rw [zdn];simp)
   | cons u rest=>exact ⟨u,rest,rfl⟩
theorem zrl (xs:List D):opIs (.tup xs) .non=some (.bl false):=rfl
theorem laid_ok {f c:Nat} (hw:S[i]? = some (wd (addv k) n)) (ml:Mk k l lt lh) (mr:Mk k r rt rh) (hn:lt.length + rt.length≤2000) (al:All P l) (ar:All P r) (hf:rh≤f) (c1:lh≤rh + c) (c2:rh≤lh + c) :
   ∃d h new S',zcb (zcs f) [.obj i,l,r] S=some (d,S')∧Res k i S n P (lt++rt) d h new S'∧(lh≤rh + 1→rh≤lh + 1→Hi lh rh h)∧new.length≤9 * rh + 9 * c + 10:=by
 rcases zql ml with ⟨rfl,rfl,rfl⟩ | ⟨⟨xs,rfl⟩,u0,r0,rfl⟩
 · exact ⟨r,rh,[],S,rfl,⟨mr,Wt.nil hw,ar.old⟩,fun _ _=>hi0 rh,Nat.zero_le _⟩
 · rcases zql mr with ⟨rfl,rfl,rfl⟩ | ⟨⟨ys,rfl⟩,u,rest,rfl⟩
   · exact ⟨_,lh,[],S,rfl,⟨by rw [List.append_nil];exact ml,Wt.nil hw,al.old⟩,fun _ _=>(hi0 lh).sym,Nat.zero_le _⟩
   · simp only [List.length_cons] at hn
     have l15:=h15 ml (by simp only [List.length_cons];omega)
     have r15:=h15 mr (by simp only [List.length_cons];omega)
     obtain ⟨d1,g,w1,S1,q1,r1,⟨b1,b2⟩,b3⟩:=zvp f hw mr (by omega) ar hf
     have at0:=zeh (x:=u) 40 (b:=false) (p:=0) mr (by omega) rfl S
     have hj:∃c',c' < 40∧c'≤c + 1∧lh≤g + c'∧g≤lh + c':=by
       obtain ⟨z1,z2⟩:=ld1 b1 b2 c1 c2
       rcases Nat.lt_or_ge c 30 with q | q
       · exact ⟨c + 1,by omega,Nat.le_refl _,z1,z2⟩
       · exact ⟨16,by decide,by omega,by omega,by omega⟩
     obtain ⟨c',j1,j2,j3,j4⟩:=hj
     obtain ⟨d2,g2,w2,S2,q2,r2,b5,b6,b7⟩:=zex 40 c' r1.wt.at_ ml r1.mm (mr.things u (List.mem_cons_self ..)) (by simp only [List.length_cons];omega) al.old r1.all j3 j4 j1
     have r2:=r2.after r1.wt
     exact ⟨d2,g2,_,S2,b_rt rfl (zaf (zaj (b_of (e_2 (e_v rfl) e_k (zrl _)))) (zaf (zaj (b_of (e_2 (e_v rfl) e_k (zrl _)))) (zau (zag (a_c (e_v rfl) (a_c (e_v rfl) (a_c (zag (a_c (e_v rfl) (a_c e_k (a_c e_k a_n))) at0) (a_c (zag (a_c (e_v rfl) (a_c (e_v rfl) (a_c e_k a_n))) q1) a_n)))) q2)))),r2,ld2 b1 b2 b5 b6,by simp only [List.length_append];omega⟩
end Pg
set_option maxHeartbeats 4000000
namespace Pg
open PySem L2 F Mt
variable {k:Nat} [Kd k] {d l r t x y:D}{ts lt rt:List D}{h lh rh i:Nat}{n:Int}{S S0 S1:Sto}{ev e:Ev}{P Q:D→Prop}{a b new:List D}
structure Cut (k i:Nat) (S:Sto) (n:Int) (P:D→Prop) (lt rt:List D) (h:Nat) (x y:D) (xh yh:Nat) (new:List D) (S':Sto):Prop where
 wt:Wt k i S n new S'
 mx:Mk k x lt xh
 my:Mk k y rt yh
 hx:xh≤h
 hy:yh≤h
 ax:All (Ac P n new) x
 ay:All (Ac P n new) y
 few:new.length≤9 * (xh + yh) + 3 * h
theorem ct1 {xh yh bh h:Nat} (p:Top xh yh h) (h1:xh≤yh + 1) (hb:bh≤xh) (h40:h < 40):∃c,c < 40∧bh≤yh + c∧yh≤bh + c∧∀z ah l1 l2 l3,Hi bh yh z→(bh≤yh + 1→yh≤bh + 1→Top bh yh z)→l1≤2→l2≤9 * (ah + bh) + 3 * xh→l3≤9 * c + 1→l1 + l2 + l3≤9 * (ah + z) + 3 * h:=by
 obtain ⟨p1,p2,p3⟩:=p
 by_cases q:bh≤yh
 · exact ⟨yh - bh,by omega,by omega,by omega,fun z ah l1 l2 l3 hz _ _ _ _=>by have:=hz.r;omega⟩
 · exact ⟨1,by decide,by omega,by omega,fun z ah l1 l2 l3 _ hz _ _ _=>by have:=(hz (by omega) (by omega)).l;omega⟩
theorem hi_le {a b z h:Nat} (p:Hi a b z) (h1:a < h) (h2:b < h):z≤h:=by
 have:=p.m (h - 1) (by omega) (by omega)
 omega
theorem take_l {p:Nat} (h:p≤a.length):(a++t::b).take p=a.take p:=List.take_append_of_le_length h
theorem drop_l {p:Nat} (h:p≤a.length):(a++t::b).drop p=a.drop p++t::b:=List.drop_append_of_le_length h
theorem take_r {q:Nat}:(a++t::b).take (a.length + 1 + q)=a++t::b.take q:=by rw [List.take_append,List.take_of_length_le (by omega),show a.length + 1 + q - a.length=q + 1 by omega,List.take_succ_cons]
theorem drop_r {q:Nat}:(a++t::b).drop (a.length + 1 + q)=b.drop q:=by rw [List.drop_append,List.drop_of_length_le (by omega),show a.length + 1 + q - a.length=q + 1 by omega,List.drop_succ_cons,List.nil_append]
theorem zdy:∀(f:Nat) {d:D}{ts:List D}{h p:Nat}{n:Int}{S:Sto}{P:D→Prop},S[i]? = some (wd (addv k) n)→Mk k d ts h→ts.length≤2000→p≤ts.length→All P d→h < f →
   ∃x y xh yh new S',zct f [.obj i,d,.int p] S=some (.tup [x,y],S')∧Cut k i S n P (ts.take p) (ts.drop p) h x y xh yh new S'
 | 0,_,_,_,_,_,_,_,_,_,_,_,_,hf=>absurd hf (Nat.not_lt_zero _)
 | f + 1,d,ts,h,p,n,S,P,hw,m,hl,hp,al,hf=>by
   by_cases h0:p=0
   · subst h0
     exact ⟨.non,d,0,h,[],S,b_rt rfl (zbi (zbd (b_of (e_2 (e_v rfl) e_k (eq_T rfl))) (zau (zgc (a_c e_k (a_c (e_v rfl) a_n)) (Nat.le_of_ble_eq_true rfl))))),Wt.nil hw,.non,m,Nat.zero_le _,Nat.le_refl _,.non,al.old,Nat.zero_le _⟩
   · have c0:=zdq m S
     have e0:opEq (.int p) (.int 0)=some (.bl false):=eq_F (y:=0) h0
     by_cases h9:p=ts.length
     · subst h9
       exact ⟨d,.non,h,0,[],S,b_rt rfl (zaf (zaj (b_of (e_2 (e_v rfl) e_k e0))) (zbi (zbd (b_of (e_2 (e_v rfl) (zag (a_c (e_v rfl) a_n) c0) (eq_T rfl))) (zau (zgc (a_c (e_v rfl) (a_c e_k a_n)) (Nat.le_of_ble_eq_true rfl)))))),Wt.nil hw,by rw [List.take_length];exact m,by rw [List.drop_length];exact .non,Nat.le_refl _,Nat.zero_le _,al.old,.non,Nat.zero_le _⟩
     · have h40:=h15 m hl
       obtain ⟨x,v,y,xt,yt,xh,yh,w1,S1,c1,q⟩:=zes m (zif m (List.length_pos_iff.mp (by omega))) hw al
       have e1:=q.hts
       subst e1
       have c2:=zdq q.mx S1
       have hx:=q.hh.l
       have hy:=q.hh.r
       have hl':=hl
       have hp':=hp
       simp only [List.length_append,List.length_cons] at hl' hp'
       by_cases h1:p≤xt.length
       · obtain ⟨a,b,ah,bh,w2,S2,c3,u⟩:=zdy f q.wt.at_ q.mx (by omega) h1 q.ax (by omega)
         have wt2:=q.wt.two u.wt
         obtain ⟨c,j1,j2,j3,j4⟩:=ct1 q.hh q.h1 u.hy (by omega)
         obtain ⟨d2,g2,w3,S3,c4,r3,b5,b6,b7⟩:=zex 40 c wt2.at_ u.my q.my q.ht (by rw [List.length_drop];omega) u.ay.two q.ay.app j2 j3 j1
         have r3:=r3.after wt2
         have fw:=j4 _ ah _ _ _ b5 b6 q.few u.few b7
         refine ⟨a,d2,ah,g2,_,S3,b_rt rfl (zaf (zaj (b_of (e_2 (e_v rfl) e_k e0))) (zaf (zaj (b_of (e_2 (e_v rfl) (zag (a_c (e_v rfl) a_n) c0) (eq_F h9)))) (zaf (zao (zag (a_c (e_v rfl) (a_c (e_v rfl) a_n)) c1)) (zaf (zao (zag (a_c (e_2s (e_v rfl) e_k rfl) a_n) c2)) (zbi (zbd (b_of (e_2 (e_v rfl) (e_v rfl) (le_T h1))) (zaf (zao (zag (a_c (e_v rfl) (a_c (e_2s (e_v rfl) e_k rfl) (a_c (e_v rfl) a_n))) c3)) (zau (zgc (a_c (e_2s (e_v rfl) e_k rfl) (a_c (zag (a_c (e_v rfl) (a_c (e_2s (e_v rfl) e_k rfl) (a_c (e_2s (e_v rfl) e_k rfl) (a_c (e_2s (e_v rfl) e_k rfl) a_n)))) c4) a_n)) (Nat.le_of_ble_eq_true rfl)))))))))),⟨r3.wt,by rw [take_l h1];exact u.mx,by rw [drop_l h1];exact r3.mm,Nat.le_trans u.hx (Nat.le_of_lt hx),hi_le b5 (Nat.lt_of_le_of_lt u.hy hx) hy,u.ax.two.app,r3.all,by rw [List.length_append,List.length_append];exact fw⟩⟩
       · obtain ⟨z,e⟩:∃z,p=xt.length + 1 + z:=⟨p - xt.length - 1,by omega⟩
         obtain ⟨a,b,ah,bh,w2,S2,c3,u⟩:=zdy f (p:=z) q.wt.at_ q.my (by omega) (by omega) q.ay (by omega)
         have wt2:=q.wt.two u.wt
         obtain ⟨c,j1,j2,j3,j4⟩:=ct1 q.hh.sym q.h2 u.hx (by omega)
         obtain ⟨d2,g2,w3,S3,c4,r3,b5,b6,b7⟩:=zex 40 c wt2.at_ q.mx u.mx q.ht (by rw [List.length_take];omega) q.ax.app u.ax.two j3 j2 j1
         have r3:=r3.after wt2
         have fw:=j4 _ bh _ _ _ b5.sym (fun u v=>(b6 v u).sym) q.few (by have:=u.few;rwa [Nat.add_comm ah bh] at this) b7
         rw [Nat.add_comm bh] at fw
         refine ⟨d2,b,g2,bh,_,S3,b_rt rfl (zaf (zaj (b_of (e_2 (e_v rfl) e_k e0))) (zaf (zaj (b_of (e_2 (e_v rfl) (zag (a_c (e_v rfl) a_n) c0) (eq_F h9)))) (zaf (zao (zag (a_c (e_v rfl) (a_c (e_v rfl) a_n)) c1)) (zaf (zao (zag (a_c (e_2s (e_v rfl) e_k rfl) a_n) c2)) (zaf (zaj (b_of (e_2 (e_v rfl) (e_v rfl) (le_F h1)))) (zaf (zao (zag (a_c (e_v rfl) (a_c (e_2s (e_v rfl) e_k rfl) (a_c (e_sub2 (e_v rfl) (e_v rfl) e) a_n))) c3)) (zau (zgc (a_c (zag (a_c (e_v rfl) (a_c (e_2s (e_v rfl) e_k rfl) (a_c (e_2s (e_v rfl) e_k rfl) (a_c (e_2s (e_v rfl) e_k rfl) a_n)))) c4) (a_c (e_2s (e_v rfl) e_k rfl) a_n)) (Nat.le_of_ble_eq_true rfl))))))))),⟨r3.wt,by rw [e,take_r];exact r3.mm,by rw [e,drop_r];exact u.my,hi_le b5 hx (Nat.lt_of_le_of_lt u.hx hy),Nat.le_trans u.hy (Nat.le_of_lt hy),r3.all,u.ay.two.app,by rw [List.length_append,List.length_append];exact fw⟩⟩
theorem chain3 {s e m:Nat}{f g w z:E} (hs:s≤e) (he:e≤m) (h0:f ev S=some (.int (0:Nat),S)) (h1:g ev S=some (.int s,S)) (h2:w ev S=some (.int e,S)) (h3:z ev S=some (.int m,S)):zmk opLe opLe opLe f g w z ev S=some (.bl true,S):=by
 simp only [zmk,h0,h1,h2,h3,Option.bind_some,le_T (Nat.zero_le s),le_T hs,le_T he,Option.map_some]
theorem zsp {s e:Nat} (m:Mk k d ts h) (hs:s≤e) (he:e≤ts.length) (S:Sto):zck [d,.int s,.int e] S=some (.non,S) :=
 b_nx rfl (zaj (b_nT (b_of (chain3 hs he e_k (e_v rfl) (e_v rfl) (zag (a_c (e_v rfl) a_n) (zdq m S))))))
def turn (s e:Nat) (ts:List D):List D:=ts.take s++((ts.take e).drop s).reverse++ts.drop e
theorem zld {s e:Nat} (hs:s≤e) (he:e≤ts.length):(turn s e ts).length=ts.length:=by
 simp only [turn,List.length_append,List.length_reverse,List.length_drop,List.length_take];omega
theorem laid_t (hw:S[i]? = some (wd (addv k) n)) (ml:Mk k l lt lh) (mr:Mk k r rt rh) (hn:lt.length + rt.length≤2000) (al:All P l) (ar:All P r):∃d h new S',zcj [.obj i,l,r] S=some (d,S')∧Res k i S n P (lt++rt) d h new S'∧new.length≤9 * rh + 9 * max lh rh + 10:=by
 have h1:=h15 mr (by omega)
 obtain ⟨d,h,new,S1,c,r,_,b⟩:=laid_ok (f:=40) (c:=max lh rh) hw ml mr hn al ar (by omega) (by omega) (by omega)
 exact ⟨d,h,new,S1,c,r,b⟩
theorem zjq {s e:Nat} (hw:S[i]? = some (wd (addv k) n)) (m:Mk k d ts h) (hl:ts.length≤2000) (hs:s≤e) (he:e≤ts.length) (al:All P d):∃d' h' new S',zcx [.obj i,d,.int s,.int e] S=some (d',S')∧Res k i S n P (turn s e ts) d' h' new S':=by
 have h1:=h15 m hl
 obtain ⟨x,y,xh,yh,w1,S1,c1,u⟩:=zdy 40 hw m hl he al (by omega)
 have hx:=u.hx
 obtain ⟨x',y',xh',yh',w2,S2,c2,u'⟩:=zdy 40 (p:=s) u.wt.at_ u.mx (by rw [List.length_take];omega) (by rw [List.length_take];omega) u.ax (by omega)
 have wt2:=u.wt.two u'.wt
 obtain ⟨d3,w3,S3,c3,r3,_⟩:=zqk u'.my wt2.at_ u'.ay.two
 have r3:=r3.after wt2
 obtain ⟨d4,h4,w4,S4,c4,r4,_⟩:=laid_t r3.wt.at_ u'.mx r3.mm (by simp only [List.length_reverse,List.length_drop,List.length_take];omega) u'.ax.two.app r3.all
 have r4:=r4.after r3.wt
 obtain ⟨d5,h5,w5,S5,c5,r5,_⟩:=laid_t r4.wt.at_ r4.mm u.my (by simp only [List.length_append,List.length_reverse,List.length_drop,List.length_take];omega) r4.all u.ay.app.app.app
 have r5:=r5.after r4.wt
 have es:(ts.take e).take s=ts.take s:=by rw [List.take_take,Nat.min_eq_left hs]
 rw [es] at r5
 exact ⟨d5,h5,_,S5,b_rt rfl (zaf (zfy (zag (a_c (e_v rfl) (a_c (e_v rfl) (a_c (e_v rfl) a_n))) (zsp m hs he S))) (zaf (zao (zag (a_c (e_v rfl) (a_c (e_v rfl) (a_c (e_v rfl) a_n))) c1)) (zaf (zao (zag (a_c (e_v rfl) (a_c (e_2s (e_v rfl) e_k rfl) (a_c (e_v rfl) a_n))) c2)) (zaf (zao (zag (a_c (e_v rfl) (a_c (e_2s (e_v rfl) e_k rfl) (a_c (zdd (e_v rfl) (zbl wt2.at_) (zgh _ _) (a_c (e_2s (e_v rfl) e_k rfl) a_n) c3) a_n))) c4)) (zau (zag (a_c (e_v rfl) (a_c (e_v rfl) (a_c (e_2s (e_v rfl) e_k rfl) a_n))) c5)))))),r5⟩
end Pg
set_option maxHeartbeats 4000000
namespace Pg
open PySem L2 F Mt
variable {k:Nat} [Kd k] {d l r t x y:D}{ts lt rt:List D}{h lh rh i:Nat}{n:Int}{S S0 S1:Sto}{ev e:Ev}{P Q:D→Prop}{a b new:List D}
theorem chain2 {p m:Nat}{f g w:E} (hp:p < m) (h0:f ev S=some (.int (0:Nat),S)) (h1:g ev S=some (.int p,S)) (h2:w ev S=some (.int m,S)):zny opLe opLt f g w ev S=some (.bl true,S):=by
 simp only [zny,h0,h1,h2,Option.bind_some,le_T (Nat.zero_le p),lt_T hp,Option.map_some]
theorem place_ok {p m:Nat} (hp:p < m) (S:Sto):zdb [.int p,.int m] S=some (.non,S):=b_nx rfl (zaj (b_nT (b_of (chain2 hp e_k (e_v rfl) (e_v rfl)))))
theorem at_ok {p:Nat} (m:Mk k d ts h) (hl:ts.length≤2000) (hp:ts[p]? = some x) (S:Sto):g_at [d,.int p] S=some (x,S) :=
 b_rt rfl (zaf (zfy (zag (a_c (e_v rfl) (a_c (zag (a_c (e_v rfl) a_n) (zdq m S)) a_n)) (place_ok (List.getElem?_eq_some_iff.mp hp).1 S))) (zau (zag (a_c (e_v rfl) (a_c e_k (a_c (e_v rfl) a_n))) (zeh 40 (b:=false) m (Nat.le_trans (h15 m hl) (by decide)) hp S))))
theorem znb {q j:Nat}{v:E}{us:List D} (he:ev[q]? = some (some (.obj j))) (hj:S[j]? = some (.lst us)) (hv:v ev S=some (x,S)) (hl:us.length < 16777216):zgy (eV q) v ev S=some (.nx ev,S.set j (.lst (us++[x]))):=by
 have hz:sizeLine=16777216:=sizeLine_eq
 simp only [zgy,e_v he,Option.bind_some,hj,hv,hz,if_pos hl]
theorem ziy:∀(f:Nat) {d:D}{ts:List D}{h j:Nat}{b:Bool}{acc:List D}{S:Sto},Mk k d ts h→h < f→S[j]? = some (.lst acc)→acc.length + ts.length < 16777216→zfm f [d,.bl b,.obj j] S=some (.non,S.set j (.lst (acc++ord b ts)))
 | 0,_,_,_,_,_,_,_,_,hf,_,_=>absurd hf (Nat.not_lt_zero _)
 | f + 1,d,ts,h,j,b,acc,S,m,hf,hj,hl=>by
   rcases zql m with ⟨rfl,rfl,rfl⟩ | ⟨⟨xs,ed⟩,u0,r0,e0⟩
   · rw [show ord b ([]:List D)=[] by cases b <;> rfl,List.append_nil]
     have:S.set j (.lst acc)=S:=by
       obtain ⟨hj',ej⟩:=List.getElem?_eq_some_iff.mp hj
       rw [← ej];exact List.set_getElem_self hj'
     rw [this]
     exact b_rt rfl (zbi (zbd (b_of (e_2 (e_v rfl) e_k rfl)) rfl))
   · obtain ⟨u,t,y,c,xt,yt,xh,yh,c1,s⟩:=zoy m (zif m (by rw [e0];simp)) b S
     have hi:opIs d .non=some (.bl false):=by rw [ed];rfl
     have hu:=s.hu
     have hlen:ts.length=xt.length + (yt.length + 1):=by
       have:=congrArg List.length hu
       rw [zdn,List.length_append,List.length_cons,zdn,zdn] at this
       exact this
     have hx:=s.hx
     have hy:=s.hy
     have lx:=zdn c xt
     have ly:=zdn c yt
     have c2:=ziy f (b:=c) (S:=S) s.mx (by omega) hj (by omega)
     have j2:(S.set j (.lst (acc++ord c xt)))[j]? = some (.lst (acc++ord c xt)):=zuy hj
     have j3:((S.set j (.lst (acc++ord c xt))).set j (.lst (acc++ord c xt++[t])))[j]? = some (.lst (acc++ord c xt++[t])):=zuy j2
     have c3:=ziy f (b:=c) s.my (by omega) j3 (by simp only [List.length_append,List.length_cons,List.length_nil];omega)
     have e5:((S.set j (.lst (acc++ord c xt))).set j (.lst (acc++ord c xt++[t]))).set j (.lst (acc++ord c xt++[t]++ord c yt))=S.set j (.lst (acc++ord b ts)):=by rw [List.set_set,List.set_set,show acc++ord c xt++[t]++ord c yt=acc++ord b ts by rw [hu];simp]
     rw [e5] at c3
     exact b_nx rfl (zaf (zaj (b_of (e_2 (e_v rfl) e_k hi))) (zaf (zao (zag (a_c (e_v rfl) (a_c (e_v rfl) a_n)) c1)) (zaf (zfy (zag (a_c (e_2s (e_v rfl) e_k rfl) (a_c (e_2s (e_v rfl) e_k rfl) (a_c (e_v rfl) a_n))) c2)) (zaf (znb rfl j2 (e_2s (e_v rfl) e_k rfl) (by simp only [List.length_append];omega)) (zfy (zag (a_c (e_2s (e_v rfl) e_k rfl) (a_c (e_2s (e_v rfl) e_k rfl) (a_c (e_v rfl) a_n))) c3))))))
def SB (S:Sto):Prop:=∀m∈S,bndM S.length m=true
theorem bnd_thing {m:Nat} (hx:Thing k x):bnd m x=true:=by
 cases sv_thing hx with
 | non=>rfl
 | int i=>rfl
 | str z=>rfl
 | pair a b=>rfl
theorem zgf {m:Nat}:∀{ts:List D},(∀x∈ts,Thing k x)→bndL m ts=true
 | [],_=>rfl
 | t::ts,h=>by
   unfold bndL
   rw [bnd_thing (h t (List.mem_cons_self ..)),zgf fun x hx=>h x (List.mem_cons_of_mem _ hx)];rfl
theorem wd_bnd (m:Nat) (n:Int):bndM m (wd (addv k) n)=true:=by
 unfold wd bndM addv
 by_cases hk:k=0
 · simp [hk,bndL,bnd]
 · simp [hk,bndL,bnd]
theorem zna (m:Mk k d ts h) (hl:ts.length≤2000) (hb:SB S):zdt [d] S=some (.lst ts,S):=by
 have h1:=h15 m hl
 have c1:=ziy 40 (b:=false) (S:=S++[.lst []]) (j:=S.length) (acc:=[]) m (by omega) (zls S _) (by simp only [List.length_nil];omega)
 have e1:(S++[MO.lst []]).set S.length (.lst ([]++ord false ts))=S++[.lst ts]:=by simp [ord]
 rw [e1] at c1
 have c2:zaz 2 1 zge [d] S=some (.obj S.length,S++[.lst ts]):=b_rt rfl (zaf (zao (e_newL a_n (Nat.zero_le _))) (zaf (zfy (zag (a_c (e_v rfl) (a_c e_k (a_c (e_v rfl) a_n))) c1)) (zau (e_v rfl))))
 have e2:(S++[MO.lst ts]).take S.length=S:=List.take_left
 have e3:S.all (bndM S.length)=true:=List.all_eq_true.mpr hb
 unfold zdt frz
 rw [c2]
 simp only [Option.bind_some,e2,e3,if_true,Nat.lt_irrefl,if_false,zls,zgf m.things]
end Pg
set_option maxHeartbeats 4000000
namespace Pg
open PySem L2 F Mt
variable {k:Nat} [Kd k] {d l r t x y:D}{ts lt rt:List D}{h lh rh i:Nat}{n:Int}{S S0 S1:Sto}{ev e:Ev}{P Q:D→Prop}{a b new:List D}
theorem all_T (m:Mk k d ts h):All (fun _=>True) d:=by
 induction m with
 | non=>exact .non
 | node _ _ _ _ _ il ir=>exact .node trivial il ir
theorem rev_th (h:∀z∈lt,Thing k z):∀z∈lt.reverse,Thing k z:=fun z hz=>h z (List.mem_reverse.mp hz)
theorem sx (m d v:Nat):HT.sIx m d (some (v:Int))=min v m:=by
 show (if (v:Int) < 0 then ((v:Int) + (m:Int)).toNat else min (v:Int).toNat m)=min v m
 rw [if_neg (by omega),Int.toNat_natCast]
theorem sl_to (e:Nat):opSl (.lst ts) none (some (e:Int))=some (.lst (ts.take e)):=by
 show some (D.lst ((ts.drop 0).take (HT.sIx ts.length ts.length (some (e:Int)) - 0)))=_
 rw [sx,List.drop_zero,Nat.sub_zero,← List.take_take,List.take_length]
theorem sl_from {s:Nat} (hs:s≤ts.length):opSl (.lst ts) (some (s:Int)) none=some (.lst (ts.drop s)):=by
 show some (D.lst ((ts.drop (HT.sIx ts.length 0 (some (s:Int)))).take (ts.length - HT.sIx ts.length 0 (some (s:Int)))))=_
 rw [sx,Nat.min_eq_left hs,List.take_of_length_le (by rw [List.length_drop];omega)]
theorem sl_mid {s e:Nat} (hs:s≤e) (he:e≤ts.length):opSl (.lst ts) (some (s:Int)) (some (e:Int))=some (.lst ((ts.take e).drop s)):=by
 show some (D.lst ((ts.drop (HT.sIx ts.length 0 (some (s:Int)))).take (HT.sIx ts.length ts.length (some (e:Int)) - HT.sIx ts.length 0 (some (s:Int)))))=_
 rw [sx,sx,Nat.min_eq_left (Nat.le_trans hs he),Nat.min_eq_left he,List.drop_take]
theorem zvy (m:Int) (c:Nat):∃e:Nat,e≤c∧zcw (.int m) (.int ((c:Int) + 1))=some (.int e):=by
 have x0:=Int.emod_nonneg m (show (c:Int) + 1≠0 by omega)
 have x1:=Int.emod_lt_of_pos m (show (0:Int) < (c:Int) + 1 by omega)
 exact ⟨(m % ((c:Int) + 1)).toNat,by omega,by rw [zeu (by omega),show (((m % ((c:Int) + 1)).toNat:Nat):Int)=m % ((c:Int) + 1) by omega]⟩
theorem zvx (m:Int) {c:Nat} (hc:0 < c):∃e:Nat,e < c∧zcw (.int m) (.int (c:Int))=some (.int e):=by
 have x0:=Int.emod_nonneg m (show (c:Int)≠0 by omega)
 have x1:=Int.emod_lt_of_pos m (show (0:Int) < (c:Int) by omega)
 exact ⟨(m % (c:Int)).toNat,by omega,by rw [zeu (by omega),show (((m % (c:Int)).toNat:Nat):Int)=m % (c:Int) by omega]⟩
theorem e_compR {fr:List Nat}{f g:E}{c:Int}{S2:Sto} (h:f ev S=some (.int c,S1)) (h0:0≤c) (hc:c≤1000000) (hl:ztt g (fr.map (evAt ev)) (zbr 0 c.toNat) S1=some (ts,S2)):zrx fr f g ev S=some (.lst ts,S2):=by
 have hz:sizeLine=16777216:=sizeLine_eq
 have cnd:-(2 ^ 62)≤c∧c < 2 ^ 62∧c≤(sizeLine:Int):=by omega
 simp only [zrx,h,Option.bind_some,cnd,and_self,if_true,hl,Option.map_some]
theorem rng {c:Nat} (h:c≤10000):∀x∈zbr 0 c,∃i:Int,x=.int i∧0≤i∧i < 10000:=fun x hx=>by
 unfold zbr at hx
 obtain ⟨j,hj,rfl⟩:=List.mem_map.mp hx
 have:=List.mem_range.mp hj
 exact ⟨_,rfl,by omega,by omega⟩
theorem zoz (c:Nat):(zbr 0 c).length=c:=by simp [zbr]
end Pg
set_option maxHeartbeats 4000000
namespace Pg
open PySem L2 F Mt
variable {k:Nat} [Kd k] {d l r t x y:D}{ts us lt rt:List D}{h lh rh i:Nat}{n:Int}{S S0 S1:Sto}{ev e:Ev}{P Q:D→Prop}
theorem scr_at (ns:List Int) {q:Int} (h0:0≤q) (h1:q < ns.length):∃v:Int,atI (ns.map D.int) q=some (.int v):=by
 have hi:q.toNat < ns.length:=by omega
 have e2:(ns.map D.int)[q.toNat]? = some (.int ns[q.toNat]):=by
   rw [List.getElem?_map,List.getElem?_eq_getElem hi];rfl
 have e3:=zqd e2
 rw [show ((q.toNat:Nat):Int)=q by omega] at e3
 exact ⟨_,e3⟩
theorem p30:zid (.int 10) (.int 30)=some (.int (10 ^ 30)):=by
 have:powI 10 30=some (10 ^ 30):=by unfold powI;rw [if_pos (by decide)];rfl
 simp only [zid,F.opI,this];rfl
theorem zfd (ns:List Int) (hn:ns.length≤63) {q:Int} (h0:0≤q) (h1:q≤1000000):∃m:Int,0≤m∧m < 999999937∧∀S,zaw [.lst (ns.map D.int),.int q] S=some (.int m,S):=by
 have len:∀S:Sto,lenD S [.lst (ns.map D.int)]=some (.int (ns.length:Int)):=fun S=>by simp [lenD]
 have first:∀(S:Sto),sSet 2 (e2 zbm (e2 zep (e2 zep (eV 1) (eV 1)) (eK (.int 7919))) (eK (.int 17))) [some (.lst (ns.map D.int)),some (.int q),none] S=some (.nx [some (.lst (ns.map D.int)),some (.int q),some (.int (q * q * 7919 + 17))],S):=fun S =>
   zao (e_2 (e_2 (e_2 (e_v rfl) (e_v rfl) (zre (by omega))) e_k (zrd (by decide))) e_k (add_int _ _))
 have last:∀(c:Int) (S:Sto),sRet (e2 zcw (e2 zep (e2 zcw (e2 zbm (e2 zep (eV 2) (eK (.int 48271))) (e2 zep (eV 1) (eK (.int 69621)))) (eK (.int 2147483647))) (e2 zbm (e2 zcw (eV 2) (eK (.int 65521))) (eK (.int 3)))) (eK (.int 999999937))) [some (.lst (ns.map D.int)),some (.int q),some (.int c)] S=some (.rt (.int ((c * 48271 + q * 69621) % 2147483647 * (c % 65521 + 3) % 999999937)),S):=fun c S=>by
   have y0:=Int.emod_nonneg (c * 48271 + q * 69621) (show (2147483647:Int)≠0 by decide)
   have y1:=Int.emod_lt_of_pos (c * 48271 + q * 69621) (show (0:Int) < 2147483647 by decide)
   exact zau (e_2 (e_2 (e_2 (e_2 (e_2 (e_v rfl) e_k (zrd (by decide))) (e_2 (e_v rfl) e_k (zrd (by decide))) (add_int _ _)) e_k (zeu (by decide))) (e_2 (e_2 (e_v rfl) e_k (zeu (by decide))) e_k (add_int _ _)) (zre (by omega))) e_k (zeu (by decide)))
 by_cases z:0 < (ns.length:Int)
 · have x0:=Int.emod_nonneg q (show (ns.length:Int)≠0 by omega)
   have x1:=Int.emod_lt_of_pos q z
   obtain ⟨v,hv⟩:=scr_at ns x0 x1
   refine ⟨_,Int.emod_nonneg _ (by decide),Int.emod_lt_of_pos _ (by decide),fun S=>b_rt rfl (zaf (first S) (zaf (zbd (b_of (e_2 (e_a (a_c (e_v rfl) a_n) (len _)) e_k (show opGt (.int (ns.length:Int)) (.int 0)=some (.bl true) by simp [opGt,opIB];omega)))
     (zao (e_2 (e_2 (e_2s (e_v rfl) (e_2 (e_v rfl) (e_a (a_c (e_v rfl) a_n) (len _)) (zeu z)) hv) (e_2 e_k e_k p30) (zeu (by decide))) (e_2 (e_2 (e_v rfl) (e_a (a_c (e_v rfl) a_n) (len _)) (div_e ⟨z,by omega⟩)) e_k (zrd (by decide))) (add_int _ _)))) (last _ S)))⟩
 · exact ⟨_,Int.emod_nonneg _ (by decide),Int.emod_lt_of_pos _ (by decide),fun S=>b_rt rfl (zaf (first S) (zaf (zaj (b_of (e_2 (e_a (a_c (e_v rfl) a_n) (len _)) e_k (show opGt (.int (ns.length:Int)) (.int 0)=some (.bl false) from (by show some (D.bl (decide ((0:Int) < (ns.length:Int))))=_;rw [decide_eq_false z]))))) (last _ S)))⟩
theorem zuq {i:Nat}{f:E}{b:C}{n:Int}{o:Out}{S2:Sto} (h:f ev S=some (.int n,S1)) (h0:0≤n) (h1:n < 1000000) (q:zfz i b (zbr 0 n.toNat) ev S1=some (o,S2)):zva i f b ev S=some (o,S2):=by
 have cnd:-(2 ^ 62)≤n∧n < 2 ^ 62:=by omega
 simp only [zva,h,Option.bind_some,if_pos cnd,q]
theorem st_forL {i:Nat}{f:E}{b:C}{ds:List D}{o:Out}{S2:Sto} (h:f ev S=some (.lst ds,S1)) (q:zfz i b ds ev S1=some (o,S2)):sForL i f b ev S=some (o,S2):=by
 simp only [sForL,h,Option.bind_some,q]
theorem zlp {i:Nat}{b:C}{d:D}{ds:List D}{e1:Ev}{o:Out}{S2:Sto} (h:b (ev.set i (some d)) S=some (.nx e1,S1)) (q:zfz i b ds e1 S1=some (o,S2)):zfz i b (d::ds) ev S=some (o,S2):=by
 unfold zfz;rw [h];exact q
theorem listV_e {f:E} (h:f ev S=some (.lst ts,S1)):zrw (aC f aN) ev S=some (.lst ts,S1):=by simp [zrw,aC,aN,h]
theorem frz_lst {g:G}{ds us:List D}{J:Sto} (hS:SB S) (hg:g ds S=some (.lst us,S++J)) (hb:bndL S.length us=true):frz g ds S=some (.lst us,S):=by
 unfold frz
 rw [hg]
 have e1:(S++J).take S.length=S:=List.take_left
 have e2:S.all (bndM S.length)=true:=List.all_eq_true.mpr hS
 simp only [Option.bind_some,e1,e2,if_true,bnd,hb]
theorem zsv (lo:Int) (m:Nat):zbr lo (m + 1)=.int lo::zbr (lo + 1) m:=by
 unfold zbr
 rw [List.range_succ_eq_map,List.map_cons,List.map_map]
 congr 1
 · simp
 · refine List.map_congr_left fun z _=>?_
   simp;omega
end Pg
set_option maxHeartbeats 4000000
namespace Pg
open PySem L2 F Mt
structure Sw (T:D→Prop) (lt:D→D→Bool):Prop where
 irr:∀x,T x→lt x x=false
 tr:∀x y z,T x→T y→T z→lt x y=true→lt y z=true→lt x z=true
 co:∀x y z,T x→T y→T z→lt x z=true→lt x y=true∨lt y z=true
section
variable {T:D→Prop}{lt:D→D→Bool}
def alk (lt:D→D→Bool) (x y:D):Prop:=lt x y=false∧lt y x=false
def Srt (lt:D→D→Bool) (l:List D):Prop:=l.Pairwise fun x y=>lt x y=true
def Al (T:D→Prop) (l:List D):Prop:=∀x∈l,T x
theorem Al.tail {x:D}{l:List D} (h:Al T (x::l)):Al T l:=fun y hy=>h y (List.mem_cons_of_mem _ hy)
theorem Al.head {x:D}{l:List D} (h:Al T (x::l)):T x:=h x (List.mem_cons_self ..)
open Classical in
noncomputable def hs (lt:D→D→Bool) (l:List D) (x:D):Bool:=decide (∃y∈l,alk lt y x)
open Classical in
theorem hs_iff {l:List D}{x:D}:hs lt l x=true ↔ ∃y∈l,alk lt y x:=by unfold hs;exact decide_eq_true_iff
def cb (lt:D→D→Bool) (l:List D) (x:D):Nat:=(l.filter (lt · x)).length
theorem cb_cut (w:Sw T lt) {a b:List D}{t x:D} (al:Al T (a++t::b)) (tx:T x) (s:Srt lt (a++t::b)):cb lt (a++t::b) x=if lt t x=true then a.length + 1 + cb lt b x else cb lt a x:=by
 have tt:T t:=al t (by simp)
 obtain ⟨sa,sb,sab⟩:=List.pairwise_append.mp s
 obtain ⟨st,sb'⟩:=List.pairwise_cons.mp sb
 unfold cb
 rw [List.filter_append,List.length_append,List.filter_cons]
 split
 · rename_i h
   have e:a.filter (lt · x)=a:=List.filter_eq_self.mpr fun y hy=>w.tr y t x (al y (by simp [hy])) tt tx (sab y hy t (List.mem_cons_self ..)) h
   rw [e,List.length_cons];omega
 · rename_i h
   have e:b.filter (lt · x)=[]:=List.filter_eq_nil_iff.mpr fun y hy q=>h (w.tr t y x tt (al y (by simp [hy])) tx (st y hy) q)
   rw [e];simp
theorem zsf (w:Sw T lt) {x:D} (tx:T x):∀{l:List D},Al T l→Srt lt l→(∀y∈l.take (cb lt l x),lt y x=true)∧(∀y∈l.drop (cb lt l x),lt y x=false)
 | [],_,_=>⟨fun y hy=>by simp at hy,fun y hy=>by simp at hy⟩
 | z::l,al,s=>by
   obtain ⟨sz,sl⟩:=List.pairwise_cons.mp s
   have e:=cb_cut w (a:=[]) (b:=l) (t:=z) al tx s
   rw [List.nil_append] at e
   by_cases h:lt z x=true
   · rw [if_pos h] at e
     obtain ⟨i1,i2⟩:=zsf w tx al.tail sl
     rw [e,show [].length + 1 + cb lt l x=cb lt l x + 1 by simp;omega,List.take_succ_cons,List.drop_succ_cons]
     exact ⟨fun y hy=>(List.mem_cons.mp hy).elim (fun q=>q ▸ h) (i1 y),i2⟩
   · rw [if_neg h] at e
     have e0:cb lt (z::l) x=0:=e
     rw [e0]
     refine ⟨fun y hy=>by simp at hy,fun y hy=>?_⟩
     rcases List.mem_cons.mp hy with rfl | hy
     · exact Bool.eq_false_iff.mpr h
     · exact Bool.eq_false_iff.mpr fun q=>h (w.tr z y x al.head (al.tail y hy) tx (sz y hy) q)
theorem hs_at (w:Sw T lt) {x:D} (tx:T x) {l:List D} (al:Al T l) (s:Srt lt l):hs lt l x=true ↔ ∃y,l[cb lt l x]? = some y∧lt x y=false:=by
 obtain ⟨h1,h2⟩:=zsf w tx al s
 constructor
 · intro h
   obtain ⟨y,hy,r⟩:=hs_iff.mp h
   have hy':y∈l.drop (cb lt l x):=by
     rw [← List.take_append_drop (cb lt l x) l] at hy
     rcases List.mem_append.mp hy with q | q
     · have:=r.1;rw [h1 y q] at this;cases this
     · exact q
   cases q:l.drop (cb lt l x) with
   | nil=>rw [q] at hy';cases hy'
   | cons z m =>
     have hz:l[cb lt l x]? = some z:=by
       have:=List.getElem?_drop (xs:=l) (i:=cb lt l x) (j:=0)
       rw [q] at this;simpa using this.symm
     refine ⟨z,hz,?_⟩
     have sd:Srt lt (z::m):=q ▸ List.Pairwise.drop s
     rw [q] at hy'
     rcases List.mem_cons.mp hy' with rfl | hm
     · exact r.2
     · cases g:lt x z with
       | false=>rfl
       | true =>
         have tz:=al z (List.mem_of_getElem? hz)
         have:=w.tr x z y tx tz (al y hy) g ((List.pairwise_cons.mp sd).1 y hm)
         rw [r.2] at this;cases this
 · intro ⟨y,hy,r⟩
   have hm:y∈l.drop (cb lt l x):=List.mem_of_getElem? (i:=0) (by rw [List.getElem?_drop];simpa using hy)
   exact hs_iff.mpr ⟨y,List.mem_of_getElem? hy,h2 y hm,r⟩
end
end Pg
set_option maxHeartbeats 4000000
namespace Pg
open PySem L2 F Mt
variable {d d0 l r t x y:D}{ts us rt:List D}{h i j g rh:Nat}{n:Int}{S S0 S1:Sto}{ev:Ev}{T:D→Prop}{lt:D→D→Bool}{f:LT}{vs:List D}
instance:Kd 0:=⟨rfl⟩
theorem eq_w (w c:Int):opEq (.int w) (.int c)=some (.bl (decide (w=c))):=by rw [eq_int];rfl
theorem lt_w (w c:Int):opLt (.int w) (.int c)=some (.bl (decide (w < c))):=rfl
structure Bf (T:D→Prop) (lt:D→D→Bool) (f:LT) (vs:List D):Prop where
 two:f.params.args.length=2
 no:noCL vs=true
 th:∀x,T x→Thing 0 x
 ca:∃g,clot f=some g∧∀x y,T x→T y→∀S,g ([x,y]++vs) S=some (.bl (lt x y),S)
 sw:Sw T lt
theorem zkj (hx:Thing 0 x):noC x=true:=by
 rcases hx with ⟨i,rfl⟩ | ⟨z,rfl,_⟩ <;> rfl
theorem bef {q:Nat}{e1 e2:E} (B:Bf T lt f vs) (hn:noCS S=true) (hq:ev[q]? = some (some (.clo f vs))) (h1:e1 ev S=some (x,S)) (h2:e2 ev S=some (y,S)) (tx:T x) (ty:T y):zkp ft lamt clot (eV q) (aC e1 (aC e2 aN)) ev S=some (.bl (lt x y),S):=by
 obtain ⟨g,hg,hc⟩:=B.ca
 have nn:(noCL [x,y] && noCL vs && noCS S)=true∧[x,y].length=f.params.args.length:=⟨by rw [B.no,hn];simp only [noCL,zkj (B.th x tx),zkj (B.th y ty),Bool.and_true],B.two.symm⟩
 simp only [zkp,e_v hq,Option.bind_some,hg,a_c h1 (a_c h2 a_n),if_pos nn,hc x y tx ty]
theorem zmq (B:Bf T lt f vs) (hn:noCS S=true) (tx:T x):∀(q:Nat) {d:D}{ts:List D}{h:Nat}{b:Bool},Mk 0 d ts h→h < q→Al T (ord b ts)→Srt lt (ord b ts)→zce q [d,.bl b,x,.clo f vs] S=some (.int (cb lt (ord b ts) x:Nat),S)
 | 0,_,_,_,_,_,hq,_,_=>absurd hq (Nat.not_lt_zero _)
 | q + 1,d,ts,h,b,m,hq,al,s=>by
   rcases zql m with ⟨rfl,rfl,rfl⟩ | ⟨⟨xs,rfl⟩,u0,rest,e0⟩
   · have e:ord b ([]:List D)=[]:=by unfold ord;split <;> rfl
     rw [e]
     exact b_rt rfl (zbi (zbd (b_of (e_2 (e_v rfl) e_k rfl)) (zau e_k)))
   · have hh:0 < h:=zif m (by rw [e0];simp)
     obtain ⟨u,t,y,c,xt,yt,xh,yh,c1,sn⟩:=zoy m hh b S
     have hu:=sn.hu
     have hx:=sn.hx
     have hy:=sn.hy
     rw [hu] at al s ⊢
     have tt:T t:=al t (by simp)
     obtain ⟨sa,sb,_⟩:=List.pairwise_append.mp s
     have sb':=(List.pairwise_cons.mp sb).2
     have aX:Al T (ord c xt):=fun z hz=>al z (by simp [hz])
     have aY:Al T (ord c yt):=fun z hz=>al z (by simp [hz])
     rw [cb_cut B.sw al tx s]
     have e1:bE (zkp ft lamt clot (eV 3) (aC (e2s opIx (eV 4) (eK (.int 1))) (aC (eV 2) aN))) [some (.tup xs),some (.bl b),some x,some (.clo f vs),some (.tup [u,t,y,.bl c])] S=some (lt t x,S):=b_of (bef B hn rfl (e_2s (e_v rfl) e_k rfl) (e_v rfl) tt tx)
     by_cases g:lt t x=true
     · rw [if_pos g]
       rw [g] at e1
       refine b_rt rfl (zaf (zaj (b_of (e_2 (e_v rfl) e_k (zrl xs)))) (zaf (zao (zag (a_c (e_v rfl) (a_c (e_v rfl) a_n)) c1)) (zbi (zbd e1 (zau (e_2 (e_2 (zag (a_c (e_2s (e_v rfl) e_k rfl) a_n) (zdq sn.mx S)) e_k (add_int _ _)) (zag (a_c (e_2s (e_v rfl) e_k rfl) (a_c (e_2s (e_v rfl) e_k rfl) (a_c (e_v rfl) (a_c (e_v rfl) a_n)))) (zmq B hn tx q sn.my (by omega) aY sb')) ?_))))))
       rw [add_int,zdn];congr 2
     · have g':lt t x=false:=Bool.eq_false_iff.mpr g
       rw [if_neg g]
       rw [g'] at e1
       exact b_rt rfl (zaf (zaj (b_of (e_2 (e_v rfl) e_k (zrl xs)))) (zaf (zao (zag (a_c (e_v rfl) (a_c (e_v rfl) a_n)) c1)) (zaf (zaj e1) (zau (zag (a_c (e_2s (e_v rfl) e_k rfl) (a_c (e_2s (e_v rfl) e_k rfl) (a_c (e_v rfl) (a_c (e_v rfl) a_n)))) (zmq B hn tx q sn.mx (by omega) aX sa))))))
structure Ste (T:D→Prop) (lt:D→D→Bool) (d:D) (ts:List D) (h:Nat):Prop where
 mm:Mk 0 d ts h
 al:Al T ts
 sr:Srt lt ts
theorem zng (B:Bf T lt f vs) (hn:noCS S=true) (tx:T x) (s:Ste T lt d ts h) (hl:ts.length≤2000):zcv [d,x,.clo f vs] S=some (.int (cb lt ts x:Nat),S):=by
 have h1:=h15 s.mm hl
 have:=zmq B hn tx 40 (b:=false) s.mm (by omega) (show Al T (ord false ts) from s.al) (show Srt lt (ord false ts) from s.sr)
 exact b_rt rfl (zau (zag (a_c (e_v rfl) (a_c e_k (a_c (e_v rfl) (a_c (e_v rfl) a_n)))) this))
theorem alike_ok (B:Bf T lt f vs) (hn:noCS S=true) (tx:T x) (s:Ste T lt d ts h) (hl:ts.length≤2000):zda [d,.int (cb lt ts x:Nat),x,.clo f vs] S=some (.bl (hs lt ts x),S):=by
 have hat:=hs_at B.sw tx s.al s.sr
 by_cases hp:cb lt ts x < ts.length
 · have hy:ts[cb lt ts x]? = some ts[cb lt ts x]:=List.getElem?_eq_getElem hp
   have ty:=s.al _ (List.getElem_mem hp)
   have e:hs lt ts x=!lt x ts[cb lt ts x]:=by
     rw [Bool.eq_iff_iff,hat]
     constructor
     · rintro ⟨y,q,r⟩;rw [hy] at q;cases q;rw [r];rfl
     · intro q;exact ⟨_,hy,by cases g:lt x ts[cb lt ts x] with | false=>rfl | true=>rw [g] at q;cases q⟩
   rw [e]
   exact b_rt rfl (zau (e_andT (e_2 (e_v rfl) (zag (a_c (e_v rfl) a_n) (zdq s.mm S)) ((lt_w _ _).trans (by rw [decide_eq_true (by omega)]))) (e_not (bef B hn rfl (e_v rfl) (zag (a_c (e_v rfl) (a_c (e_v rfl) a_n)) (at_ok s.mm hl hy S)) tx ty))))
 · have e:hs lt ts x=false:=by
     cases g:hs lt ts x with
     | false=>rfl
     | true=>obtain ⟨y,q,_⟩:=hat.mp g;exact absurd (List.getElem?_eq_some_iff.mp q).1 hp
   rw [e]
   exact b_rt rfl (zau (e_andF (e_2 (e_v rfl) (zag (a_c (e_v rfl) a_n) (zdq s.mm S)) ((lt_w _ _).trans (by rw [decide_eq_false (by omega)])))))
theorem has_ok (B:Bf T lt f vs) (hn:noCS S=true) (tx:T x) (s:Ste T lt d ts h) (hl:ts.length≤2000):zwp [d,x,.clo f vs] S=some (.bl (hs lt ts x),S) :=
 b_rt rfl (zau (zag (a_c (e_v rfl) (a_c (zag (a_c (e_v rfl) (a_c (e_v rfl) (a_c (e_v rfl) a_n))) (zng B hn tx s hl)) (a_c (e_v rfl) (a_c (e_v rfl) a_n)))) (alike_ok B hn tx s hl)))
end Pg
set_option maxHeartbeats 4000000
namespace Pg
open PySem L2 F Mt
variable {d d0 l r t x y:D}{ts us rt:List D}{h i j g rh:Nat}{n:Int}{S S0 S1:Sto}{ev:Ev}{T:D→Prop}{lt:D→D→Bool}{f:LT}{vs:List D}
theorem kd_one (a b:Int):([a] < [b]) ↔ a < b:=by rw [List.cons_lt_cons_iff];simp
theorem kd_two (a b c d:Int):([a,b] < [c,d]) ↔ (a < c∨a=c∧b < d):=by rw [List.cons_lt_cons_iff,kd_one]
theorem kd_str (a c:Int) (b d:Str):(a::Srt.nums b < c::Srt.nums d) ↔ (a < c∨a=c∧b.cps.toList < d.cps.toList):=by
 rw [List.cons_lt_cons_iff]
 have:(Srt.nums b < Srt.nums d) ↔ b.cps.toList < d.cps.toList:=Srt.map_lt _ _
 rw [this]
theorem zqz {a b:Str} (h:Srt.nums a=Srt.nums b):a=b:=by
 obtain ⟨a⟩:=a;obtain ⟨b⟩:=b
 refine congrArg Str.mk (Array.toList_inj.mp ?_)
 exact (List.map_inj_right fun x y e=>Int.ofNat.inj e).mp h
theorem key_inj (h:zdh x < 4) (e:zdh x=zdh y) (c:keyC x=keyC y):x=y:=by
 have h':zdh y < 4:=e ▸ h
 rcases zch h with ⟨n,rfl⟩ | ⟨z,rfl⟩ | ⟨a,b,rfl⟩ | ⟨a,z,rfl⟩ <;> rcases zch h' with ⟨m,rfl⟩ | ⟨w,rfl⟩ | ⟨u,v,rfl⟩ | ⟨u,w,rfl⟩ <;> first | (simp [zdh] at e;done) | skip
 · rw [show n=m from List.head_eq_of_cons_eq c]
 · rw [zqz c]
 · obtain ⟨c1,c2⟩:=List.cons.inj c
   rw [c1,List.head_eq_of_cons_eq c2]
 · obtain ⟨c1,c2⟩:=List.cons.inj c
   rw [c1,zqz c2]
theorem key_eq (h:zdh x < 4) (e:zdh x=zdh y):opEq x y=some (.bl (decide (keyC x=keyC y))):=by
 have h':zdh y < 4:=e ▸ h
 have ei:∀(m:Nat) (i j:Int),eqN m (.int i) (.int j)=some (i == j):=fun m i j=>by cases m <;> rfl
 have es:∀(m:Nat) (i j:Str),eqN m (.str i) (.str j)=some (i == j):=fun m i j=>by cases m <;> rfl
 have key:∀b:Bool,eqN 150 x y=some b→(b=true ↔ x=y)→opEq x y=some (.bl (decide (keyC x=keyC y))):=fun b h1 h2=>by
   unfold opEq
   rw [h1]
   have:b=decide (keyC x=keyC y):=by
     rw [Bool.eq_iff_iff,h2,decide_eq_true_iff]
     exact ⟨fun q=>q ▸ rfl,key_inj h e⟩
   rw [this];rfl
 rcases zch h with ⟨n,rfl⟩ | ⟨z,rfl⟩ | ⟨a,b,rfl⟩ | ⟨a,z,rfl⟩ <;> rcases zch h' with ⟨m,rfl⟩ | ⟨w,rfl⟩ | ⟨u,v,rfl⟩ | ⟨u,w,rfl⟩ <;> first | (simp [zdh] at e;done) | skip
 · exact key _ (ei _ _ _) (by simp)
 · exact key _ (es _ _ _) (by simp)
 · exact key ((a == u) && ((b == v) && true)) (by show eqL (eqN 149) [.int a,.int b] [.int u,.int v]=_;simp [eqL,ei]) (by simp)
 · exact key ((a == u) && ((z == w) && true)) (by show eqL (eqN 149) [.int a,.str z] [.int u,.str w]=_;simp [eqL,ei,es]) (by simp)
theorem key_lt (h:zdh x < 4) (e:zdh x=zdh y):zta x y=some (.bl (decide (keyC x < keyC y))):=by
 have h':zdh y < 4:=e ▸ h
 rcases zch h with ⟨n,rfl⟩ | ⟨z,rfl⟩ | ⟨a,b,rfl⟩ | ⟨a,z,rfl⟩ <;> rcases zch h' with ⟨m,rfl⟩ | ⟨w,rfl⟩ | ⟨u,v,rfl⟩ | ⟨u,w,rfl⟩ <;> first | (simp [zdh] at e;done) | skip
 · show some (D.bl (decide (n < m)))=some (.bl (decide ([n] < [m])))
   rw [decide_eq_decide.mpr (kd_one n m)]
 · show some (D.bl (decide (z.cps.toList < w.cps.toList)))=some (.bl (decide (Srt.nums z < Srt.nums w)))
   rw [decide_eq_decide.mpr (show (Srt.nums z < Srt.nums w) ↔ z.cps.toList < w.cps.toList from Srt.map_lt _ _)]
 · show (lexK [.int a,.int b] [.int u,.int v]).map D.bl=some (.bl (decide ([a,b] < [u,v])))
   rw [decide_eq_decide.mpr (kd_two a b u v)]
   simp only [lexK]
   by_cases h:a=u
   · subst h
     by_cases g:b=v
     · subst g
       rw [decide_eq_false (show ¬ (a < a∨a=a∧b < b) by omega)];simp
     · simp [g]
   · simp [h]
 · show (lexK [.int a,.str z] [.int u,.str w]).map D.bl=some (.bl (decide (a::Srt.nums z < u::Srt.nums w)))
   rw [decide_eq_decide.mpr (kd_str a u z w)]
   simp only [lexK]
   by_cases h:a=u
   · subst h
     by_cases g:z=w
     · subst g
       rw [decide_eq_false (show ¬ (a < a∨a=a∧z.cps.toList < z.cps.toList) from fun q=>q.elim (fun z=>by omega) fun z=>List.lt_irrefl _ z.2)];simp
     · simp [g]
   · simp [h]
def Ti (x:D):Prop:=∃i,x=.int i
def Tw (x:D):Prop:=∃z,x=.str z∧z.length≤8
def iv:D→Int
 | .int i=>i
 | _=>0
def sv:D→Str
 | .str z=>z
 | _=>⟨#[]⟩
theorem sl_len (z:Str) (lo hi:Option Int):(zgx z lo hi).length≤z.length:=by
 unfold zgx
 split
 · exact Nat.le_refl _
 · have h1:=PyProof.Rows.indices_len_le lo hi z.length
   refine Nat.le_trans ?_ h1
   show (List.filterMap _ _).toArray.size≤_
   rw [List.size_toArray]
   exact List.length_filterMap_le _ _
def kyOf (κ:Int) (x:D):D:=if κ=1 then .int (0 - iv x) else if κ=2 then .tup [.int (iv x % 7),x] else if κ=3 then .int (iv x / 3) else if κ=4 then .int (if iv x < 0 then - iv x else iv x) else if κ=6 then .tup [.int (sv x).length,x] else if κ=7 then .str (zgx (sv x) none (some 1)) else x
def TkOf (κ:Int):D→Prop:=if κ < 5 then Ti else Tw
theorem zns {κ:Int} (h0:0≤κ) (h1:κ < 8) (tx:TkOf κ x):zbb [.int κ,x] S=some (kyOf κ x,S):=by
 have hz:sizeLine=16777216:=sizeLine_eq
 have:κ=0∨κ=1∨κ=2∨κ=3∨κ=4∨κ=5∨κ=6∨κ=7:=by omega
 rcases this with rfl | rfl | rfl | rfl | rfl | rfl | rfl | rfl
 · exact b_rt rfl (zaf (zaj (b_of (e_2 (e_v rfl) e_k rfl))) (zaf (zaj (b_of (e_2 (e_v rfl) e_k rfl))) (zaf (zaj (b_of (e_2 (e_v rfl) e_k rfl))) (zaf (zaj (b_of (e_2 (e_v rfl) e_k rfl))) (zaf (zaj (b_of (e_2 (e_v rfl) e_k rfl))) (zaf (zaj (b_of (e_2 (e_v rfl) e_k rfl))) (zau (e_v rfl))))))))
 · obtain ⟨i,rfl⟩:=(show Ti x from tx)
   exact b_rt rfl (zbi (zbd (b_of (e_2 (e_v rfl) e_k rfl)) (zau (e_2 e_k (e_v rfl) (sub_int _ _)))))
 · obtain ⟨i,rfl⟩:=(show Ti x from tx)
   exact b_rt rfl (zaf (zaj (b_of (e_2 (e_v rfl) e_k rfl))) (zbi (zbd (b_of (e_2 (e_v rfl) e_k rfl)) (zau (zgc (a_c (e_2 (e_v rfl) e_k (zeu (by decide))) (a_c (e_v rfl) a_n)) (Nat.le_of_ble_eq_true rfl))))))
 · obtain ⟨i,rfl⟩:=(show Ti x from tx)
   exact b_rt rfl (zaf (zaj (b_of (e_2 (e_v rfl) e_k rfl))) (zaf (zaj (b_of (e_2 (e_v rfl) e_k rfl))) (zbi (zbd (b_of (e_2 (e_v rfl) e_k rfl)) (zau (e_2 (e_v rfl) e_k (div_e (by decide))))))))
 · obtain ⟨i,rfl⟩:=(show Ti x from tx)
   exact b_rt rfl (zaf (zaj (b_of (e_2 (e_v rfl) e_k rfl))) (zaf (zaj (b_of (e_2 (e_v rfl) e_k rfl))) (zaf (zaj (b_of (e_2 (e_v rfl) e_k rfl))) (zbi (zbd (b_of (e_2 (e_v rfl) e_k rfl)) (zau (e_a (a_c (e_v rfl) a_n) rfl)))))))
 · exact b_rt rfl (zaf (zaj (b_of (e_2 (e_v rfl) e_k rfl))) (zaf (zaj (b_of (e_2 (e_v rfl) e_k rfl))) (zaf (zaj (b_of (e_2 (e_v rfl) e_k rfl))) (zaf (zaj (b_of (e_2 (e_v rfl) e_k rfl))) (zaf (zaj (b_of (e_2 (e_v rfl) e_k rfl))) (zaf (zaj (b_of (e_2 (e_v rfl) e_k rfl))) (zau (e_v rfl))))))))
 · obtain ⟨z,rfl,hl⟩:=(show Tw x from tx)
   have ln:lenD S [.str z]=some (.int z.length):=by show (if z.length≤sizeLine then some (D.int z.length) else none)=_;rw [if_pos (by omega)]
   exact b_rt rfl (zaf (zaj (b_of (e_2 (e_v rfl) e_k rfl))) (zaf (zaj (b_of (e_2 (e_v rfl) e_k rfl))) (zaf (zaj (b_of (e_2 (e_v rfl) e_k rfl))) (zaf (zaj (b_of (e_2 (e_v rfl) e_k rfl))) (zbi (zbd (b_of (e_2 (e_v rfl) e_k rfl)) (zau (zgc (a_c (e_a (a_c (e_v rfl) a_n) ln) (a_c (e_v rfl) a_n)) (Nat.le_of_ble_eq_true rfl)))))))))
 · obtain ⟨z,rfl,hl⟩:=(show Tw x from tx)
   have sl:eSlS (eV 1) pN (pE (eK (.int 1))) [some (.int 7),some (.str z)] S=some (.str (zgx z none (some 1)),S):=by
     have h2:=sl_len z none (some 1)
     have h3:(zgx z none (some 1)).length≤sizeLine:=by omega
     simp [eSlS,eV,pN,pE,eK,opSlS,h3]
   exact b_rt rfl (zaf (zaj (b_of (e_2 (e_v rfl) e_k rfl))) (zaf (zaj (b_of (e_2 (e_v rfl) e_k rfl))) (zaf (zaj (b_of (e_2 (e_v rfl) e_k rfl))) (zaf (zaj (b_of (e_2 (e_v rfl) e_k rfl))) (zaf (zaj (b_of (e_2 (e_v rfl) e_k rfl))) (zbi (zbd (b_of (e_2 (e_v rfl) e_k rfl)) (zau sl))))))))
def kq (κ:Int):Nat:=if κ=2 then 2 else if κ=6 then 3 else if κ < 5 then 0 else 1
theorem kq4 (κ:Int):kq κ < 4:=by
 unfold kq
 split
 · decide
 split
 · decide
 split <;> decide
theorem zev {κ:Int} (h0:0≤κ) (h1:κ < 8) (tx:TkOf κ x):zdh (kyOf κ x)=kq κ:=by
 have:κ=0∨κ=1∨κ=2∨κ=3∨κ=4∨κ=5∨κ=6∨κ=7:=by omega
 rcases this with rfl | rfl | rfl | rfl | rfl | rfl | rfl | rfl
 · obtain ⟨i,rfl⟩:=(show Ti x from tx);rfl
 · obtain ⟨i,rfl⟩:=(show Ti x from tx);rfl
 · obtain ⟨i,rfl⟩:=(show Ti x from tx);rfl
 · obtain ⟨i,rfl⟩:=(show Ti x from tx);rfl
 · obtain ⟨i,rfl⟩:=(show Ti x from tx);rfl
 · obtain ⟨z,rfl,hl⟩:=(show Tw x from tx);rfl
 · obtain ⟨z,rfl,hl⟩:=(show Tw x from tx);rfl
 · obtain ⟨z,rfl,hl⟩:=(show Tw x from tx);rfl
def cc (κ:Int) (x:D):List Int:=keyC (kyOf κ x)
def ltk (κ:Int) (x y:D):Bool:=decide (cc κ x < cc κ y)
theorem sw_k (κ:Int):Sw T (ltk κ) :=
 ⟨fun x _=>decide_eq_false (List.lt_irrefl _),fun x y z _ _ _ p q=>decide_eq_true (List.lt_trans (of_decide_eq_true p) (of_decide_eq_true q)),fun x y z _ _ _ p=>by
   have p:=of_decide_eq_true p
   by_cases q:cc κ x < cc κ y
   · exact .inl (decide_eq_true q)
   · refine .inr (decide_eq_true ?_)
     by_cases g:cc κ y < cc κ z
     · exact g
     · exact absurd p (List.not_lt.mpr (List.le_trans (List.not_lt.mp g) (List.not_lt.mp q)))⟩
theorem alk_cc {κ:Int}:alk (ltk κ) x y ↔ cc κ x=cc κ y:=by
 unfold alk ltk
 rw [decide_eq_false_iff_not,decide_eq_false_iff_not]
 constructor
 · rintro ⟨a,b⟩;exact List.le_antisymm (List.not_lt.mp b) (List.not_lt.mp a)
 · intro e;rw [e];exact ⟨List.lt_irrefl _,List.lt_irrefl _⟩
theorem keq_ok {κ:Int} (h0:0≤κ) (h1:κ < 8) (tx:TkOf κ x) (ty:TkOf κ y):opEq (kyOf κ x) (kyOf κ y)=some (.bl (decide (cc κ x=cc κ y))) :=
 key_eq (by rw [zev h0 h1 tx];exact kq4 κ) (by rw [zev h0 h1 tx,zev h0 h1 ty])
theorem klt_ok {κ:Int} (h0:0≤κ) (h1:κ < 8) (tx:TkOf κ x) (ty:TkOf κ y):zta (kyOf κ x) (kyOf κ y)=some (.bl (ltk κ x y)) :=
 key_lt (by rw [zev h0 h1 tx];exact kq4 κ) (by rw [zev h0 h1 tx,zev h0 h1 ty])
theorem zov {κ:Int} (tx:TkOf κ x):Thing 0 x:=by
 unfold TkOf at tx
 split at tx
 · exact .inl tx
 · exact .inr tx
theorem zrz {cn:B}{fr:Ev}{p:D→Bool}:∀(ds:List D),(∀x∈ds,cn (some x::fr) S=some (p x,S))→zjf cn (eV 0) fr ds S=some (ds.filter p,S)
 | [],_=>rfl
 | x::ds,hc=>by
   have ih:=zrz ds fun y hy=>hc y (List.mem_cons_of_mem _ hy)
   unfold zjf
   rw [hc x (List.mem_cons_self ..)]
   simp only [Option.bind_some]
   cases g:p x with
   | true =>
     rw [if_pos rfl,List.filter_cons_of_pos g]
     show ((eV 0 (some x::fr) S).bind fun q=>(zjf cn (eV 0) fr ds q.2).bind fun r=>some (q.1::r.1,r.2))=_
     rw [show eV 0 (some x::fr) S=some (x,S) from rfl]
     simp only [Option.bind_some,ih]
   | false =>
     rw [if_neg (by simp),List.filter_cons_of_neg (by rw [g];simp)]
     exact ih
theorem compLf {fr:List Nat}{e:E}{cn:B}{p:D→Bool} (he:e ev S=some (.lst ts,S)) (hc:∀x∈ts,cn (some x::fr.map (evAt ev)) S=some (p x,S)):zhi fr e cn (eV 0) ev S=some (.lst (ts.filter p),S):=by
 unfold zhi
 rw [he]
 simp only [Option.bind_some,zrz ts hc,Option.map_some]
theorem noC_ky {κ:Int} (h0:0≤κ) (h1:κ < 8) (tx:TkOf κ x):noC (kyOf κ x)=true:=by
 have h:zdh (kyOf κ x) < 4:=by rw [zev h0 h1 tx];exact kq4 κ
 rcases zch h with ⟨n,e⟩ | ⟨z,e⟩ | ⟨a,b,e⟩ | ⟨a,z,e⟩ <;> rw [e] <;> rfl
theorem zrk {c:D→List Int} (al:Al T ts):Al T (zcm c ts):=fun x hx=>al x ((zcq ts).mem_iff.mp hx)
theorem zwe {κ:Int} (hd:ts.Pairwise fun x y=>cc κ x≠cc κ y):Srt (ltk κ) (zcm (cc κ) ts):=by
 have p1:=zit (c:=cc κ) ts
 have p2:(zcm (cc κ) ts).Pairwise fun x y=>cc κ x≠cc κ y:=(zcq ts).symm.pairwise hd fun h=>h.symm
 refine (p1.and p2).imp fun {x y} q=>decide_eq_true ?_
 by_cases g:cc κ x < cc κ y
 · exact g
 · exact absurd (List.le_antisymm (List.not_lt.mp q.1) (List.not_lt.mp g)) q.2
theorem sortD_ok {κ:Int} (h0:0≤κ) (h1:κ < 8) (al:Al (TkOf κ) ts) (hd:ts.Pairwise fun x y=>cc κ x≠cc κ y):zus (ts.map (kyOf κ)) ts=some (zcm (cc κ) ts):=by
 have hk:∀d∈ts.map (kyOf κ),zdh d=kq κ:=fun d hd=>by
   obtain ⟨x,hx,rfl⟩:=List.mem_map.mp hd
   exact zev h0 h1 (al x hx)
 have hkn:(ts=[]∧kn (ts.map (kyOf κ))=0)∨kn (ts.map (kyOf κ))=kq κ:=by
   cases ts with
   | nil=>exact .inl ⟨rfl,rfl⟩
   | cons x ts=>exact .inr (hk _ (by simp))
 unfold zus
 have hp:(ts.map (kyOf κ)).map keyC=ts.map (cc κ):=by rw [List.map_map];rfl
 have hcond:kn (ts.map (kyOf κ)) < 4∧(∀d∈ts.map (kyOf κ),zdh d=kn (ts.map (kyOf κ)))∧((ts.map (kyOf κ)).map keyC).Pairwise (·≠·):=by
   refine ⟨?_,?_,?_⟩
   · rcases hkn with ⟨_,e⟩ | e
     · rw [e];decide
     · rw [e];exact kq4 κ
   · rcases hkn with ⟨e,_⟩ | e
     · subst e;intro d hd;cases hd
     · rw [e];exact hk
   · rw [hp,List.pairwise_map];exact hd
 rw [if_pos hcond,hp]
 have e:(ts.map (cc κ)).zip ts=ts.map (fun d=>(cc κ d,d)):=by
   clear al hd hk hkn hp hcond
   induction ts with
   | nil=>rfl
   | cons x ts ih=>rw [List.map_cons,List.map_cons,List.zip_cons_cons,ih]
 rw [e,zfk (c:=cc κ) (c':=fun p:List Int×D=>p.1) (fun d=>(cc κ d,d)) (fun _=>rfl),List.map_map]
 exact congrArg some (List.map_id _)
theorem zog {cn:B}{fr:Ev}{p:D→Bool}{a:Nat} (ha:S[a]? = some (.lst us)):∀(ds:List D),(∀x∈ds,cn (some x::fr) S=some (p x,S))→zdl a us cn (eV 0) fr ds S=some (ds.filter p,S)
 | [],_=>zks ha
 | x::ds,hc=>by
   have ih:=zog ha ds fun y hy=>hc y (List.mem_cons_of_mem _ hy)
   rw [zje ha,hc x (List.mem_cons_self ..)]
   simp only [Option.bind_some]
   cases g:p x with
   | true =>
     rw [if_pos rfl,List.filter_cons_of_pos g]
     show ((eV 0 (some x::fr) S).bind fun q=>(zdl a us cn (eV 0) fr ds q.2).bind fun r=>some (q.1::r.1,r.2))=_
     rw [show eV 0 (some x::fr) S=some (x,S) from rfl]
     simp only [Option.bind_some,ih]
   | false =>
     rw [if_neg (by simp),List.filter_cons_of_neg (by rw [g];simp)]
     exact ih
theorem compOf {fr:List Nat}{e:E}{cn:B}{p:D→Bool}{a:Nat} (he:e ev S=some (.obj a,S)) (ha:S[a]? = some (.lst us)) (hc:∀x∈us,cn (some x::fr.map (evAt ev)) S=some (p x,S)):zko fr e cn (eV 0) ev S=some (.lst (us.filter p),S):=by
 unfold zko
 rw [he]
 simp only [Option.bind_some,ha,zog ha us hc,Option.map_some]
end Pg
set_option maxHeartbeats 4000000
namespace Pg
open PySem L2 F Mt
variable {d d0 l r t x y:D}{ts us rt:List D}{h i j g rh:Nat}{n:Int}{S S0 S1:Sto}{ev:Ev}{T:D→Prop}{lt:D→D→Bool}{f:LT}{vs:List D}
theorem ab_le:(Str.ofString "abc").length≤sizeLine:=by decide +kernel
theorem ab_len:(Str.ofString "abc").cps.toList.length=3:=by decide +kernel
theorem ab_at (c:Int):∃z,∀S:Sto,opIx S (.str (Str.ofString "abc")) (.int (c % 3))=some (.str ⟨#[z]⟩):=by
 have x0:=Int.emod_nonneg c (show (3:Int)≠0 by decide)
 have x1:=Int.emod_lt_of_pos c (show (0:Int) < 3 by decide)
 generalize c % 3=z at x0 x1
 have hat:∃c,atI (Str.ofString "abc").cps.toList z=some c:=by
   have hz:z.toNat < (Str.ofString "abc").cps.toList.length:=by rw [ab_len];omega
   have e3:=zqd (List.getElem?_eq_getElem hz)
   rw [show ((z.toNat:Nat):Int)=z by omega] at e3
   exact ⟨_,e3⟩
 obtain ⟨y,hy⟩:=hat
 refine ⟨y,fun S=>?_⟩
 unfold opIx
 simp only [if_pos ab_le,hy]
 rfl
noncomputable def tE8:E:=eTup (aC (eK (.int 8)) (aC (eK (.int 24)) (aC (eK (.int 72)) (aC (eK (.int 216)) (aC (eK (.int 648)) (aC (eK (.int 1944)) (aC (eK (.int 5832)) (aC (eK (.int 17496)) aN))))))))
theorem tE8_e:tE8 ev S=some (.tup [.int 8,.int 24,.int 72,.int 216,.int 648,.int 1944,.int 5832,.int 17496],S):=zgc (a_c e_k (a_c e_k (a_c e_k (a_c e_k (a_c e_k (a_c e_k (a_c e_k (a_c e_k a_n)))))))) (Nat.le_of_ble_eq_true rfl)
noncomputable def tB:C:=sSet 2 (e2 zbm (eV 2) (e2s opIx (eK (.str (Str.ofString "abc"))) (e2 zcw (e2 zjs (eV 1) (e2s opIx tE8 (eV 3))) (eK (.int 3)))))
theorem t_loop (κ c:Int):∀(m lo:Nat) (z:Str) (o:Option D),lo + m≤8→z.length≤lo→∃z':Str,z'.length≤8∧∃o',∀S,zfz 3 tB (zbr (lo:Int) m) [some (.int κ),some (.int c),some (.str z),o] S=some (.nx [some (.int κ),some (.int c),some (.str z'),o'],S)
 | 0,lo,z,o,hm,hz=>⟨z,by omega,o,fun S=>rfl⟩
 | m + 1,lo,z,o,hm,hz=>by
   have hs:sizeLine=16777216:=sizeLine_eq
   obtain ⟨q,hq,iq⟩:∃q:Int,(0 < q∧q < 1073741824)∧∀S:Sto,opIx S (.tup [.int 8,.int 24,.int 72,.int 216,.int 648,.int 1944,.int 5832,.int 17496]) (.int lo)=some (.int q):=by
     have:lo=0∨lo=1∨lo=2∨lo=3∨lo=4∨lo=5∨lo=6∨lo=7:=by omega
     rcases this with rfl | rfl | rfl | rfl | rfl | rfl | rfl | rfl
     · exact ⟨8,by decide,fun S=>rfl⟩
     · exact ⟨24,by decide,fun S=>rfl⟩
     · exact ⟨72,by decide,fun S=>rfl⟩
     · exact ⟨216,by decide,fun S=>rfl⟩
     · exact ⟨648,by decide,fun S=>rfl⟩
     · exact ⟨1944,by decide,fun S=>rfl⟩
     · exact ⟨5832,by decide,fun S=>rfl⟩
     · exact ⟨17496,by decide,fun S=>rfl⟩
   obtain ⟨y,hy⟩:=ab_at (c / q)
   have l1:(⟨#[y]⟩:Str).length=1:=rfl
   have ad:zbm (.str z) (.str ⟨#[y]⟩)=some (.str (z++⟨#[y]⟩)):=by
     show (if z.length + (⟨#[y]⟩:Str).length≤sizeLine then some (D.str (z++⟨#[y]⟩)) else none)=_
     rw [if_pos (by omega)]
   obtain ⟨z',hz',o',ih⟩:=t_loop κ c m (lo + 1) (z++⟨#[y]⟩) (some (.int lo)) (by omega) (by rw [Mt.str_len];omega)
   refine ⟨z',hz',o',fun S=>?_⟩
   rw [zsv,show ((lo:Int) + 1)=((lo + 1:Nat):Int) from rfl]
   exact zlp (zao (e_2 (e_v rfl) (e_2s e_k (e_2 (e_2 (e_v rfl) (e_2s tE8_e (e_v rfl) (iq _)) (div_e hq)) e_k (zeu (by decide))) (hy _)) ad)) (ih S)
theorem p60:zid (.int 10) (.int 60)=some (.int (10 ^ 60)):=by
 have:powI 10 60=some (10 ^ 60):=by unfold powI;rw [if_pos (by decide)];rfl
 simp only [zid,F.opI,this];rfl
theorem p6:zid (.int 982451653) (.int 6)=some (.int (982451653 ^ 6)):=by
 have:powI 982451653 6=some (982451653 ^ 6):=by unfold powI;rw [if_pos (by decide)];rfl
 simp only [zid,F.opI,this];rfl
theorem zqn {κ:Int} (h0:0≤κ) (h1:κ < 8) (c:Int) (c0:0≤c) (c1:c < 999999937):∃x,TkOf κ x∧∀S,zbq [.int κ,.int c] S=some (x,S):=by
 by_cases q:κ < 5
 · have lt5:∀S,bE (e2 opLt (eV 0) (eK (.int 5))) [some (.int κ),some (.int c),none,none] S=some (true,S):=fun S=>b_of (e_2 (e_v rfl) e_k ((lt_w _ _).trans (by rw [decide_eq_true q])))
   by_cases z:c % 9=0
   · refine ⟨.int ((c + 5) * 982451653 ^ 6 % (2 * 10 ^ 60 - 1) + 1 - 10 ^ 60),?_,fun S=>b_rt rfl (zbi (zbd (b_andT (lt5 S) (b_of (e_2 (e_2 (e_v rfl) e_k (zeu (by decide))) e_k ((eq_w _ _).trans (by rw [decide_eq_true z]))))) (zau (e_2 (e_2 (e_2 (e_2 (e_2 (e_v rfl) e_k (add_int _ _)) (e_2 e_k e_k p6) (zre (by omega))) (e_2 (e_2 e_k (e_2 e_k e_k p60) (zre (by decide))) e_k (sub_int _ _)) (zeu (by decide))) e_k (add_int _ _)) (e_2 e_k e_k p60) (sub_int _ _)))))⟩
     unfold TkOf;rw [if_pos q];exact ⟨_,rfl⟩
   · refine ⟨.int (c / 9 % 81 - 40),?_,fun S=>b_rt rfl (zaf (zaj (b_andT (lt5 S) (b_of (e_2 (e_2 (e_v rfl) e_k (zeu (by decide))) e_k ((eq_w _ _).trans (by rw [decide_eq_false z])))))) (zbi (zbd (lt5 S) (zau (e_2 (e_2 (e_2 (e_v rfl) e_k (div_e (by decide))) e_k (zeu (by decide))) e_k (sub_int _ _))))))⟩
     unfold TkOf;rw [if_pos q];exact ⟨_,rfl⟩
 · have lt5:∀S,bE (e2 opLt (eV 0) (eK (.int 5))) [some (.int κ),some (.int c),none,none] S=some (false,S):=fun S=>b_of (e_2 (e_v rfl) e_k ((lt_w _ _).trans (by rw [decide_eq_false q])))
   have w0:=Int.emod_nonneg c (show (8:Int)≠0 by decide)
   have w1:=Int.emod_lt_of_pos c (show (0:Int) < 8 by decide)
   obtain ⟨z,hz,o',lp⟩:=t_loop κ c (1 + c % 8).toNat 0 ⟨#[]⟩ none (by omega) (by decide)
   refine ⟨.str z,?_,fun S=>b_rt rfl (zaf (zaj (b_andF (lt5 S))) (zaf (zaj (lt5 S)) (zaf (zao (d:=.str ⟨#[]⟩) e_k) (zaf (zuq (b:=tB) (e_2 e_k (e_2 (e_v rfl) e_k (zeu (by decide))) (add_int _ _)) (by omega) (by omega) (lp S)) (zau (e_v rfl))))))⟩
   unfold TkOf;rw [if_neg q];exact ⟨z,rfl,hz⟩
theorem sortC_e {e:E}{g:G}{j:Nat}{y:Str}{t:LT}{is:List Nat}{kv us ks r:List D} (he:e ev S=some (d,S)) (hs:seeL S d=some us) (hj:S[j]? = some (.tab y t.qual)) (hl:us.length≤100000) (hc:zfr ev is=some kv) (hk:zpl g t.params.args.length kv us S=some (ks,S)) (hr:zus ks us=some r):znx e g j y t is ev S=some (.lst r,S):=by
 unfold znx
 simp only [he,Option.bind_some,hs,hj,hc,hk,hr,Option.map_some]
 exact if_pos ⟨trivial,trivial,hl⟩
theorem zrh {g:G}{kv:List D}{ky:D→D} (hn:noCS S=true) (hv:noCL kv=true):∀{us:List D},(∀d∈us,noC d=true∧noC (ky d)=true∧g ([d]++kv) S=some (ky d,S))→zpl g 1 kv us S=some (us.map ky,S)
 | [],_=>rfl
 | d::us,h=>by
   obtain ⟨h1,h2,h3⟩:=h d (List.mem_cons_self ..)
   have ih:=zrh hn hv fun z hz=>h z (List.mem_cons_of_mem _ hz)
   unfold zpl
   rw [if_pos ⟨by rw [hn,hv];simp [noCL,h1],rfl⟩,h3]
   simp only [Option.bind_some,h2,hn,Bool.and_self,if_true,ih,Option.map_some,List.map_cons]
theorem capK_e {is:List Nat}{F:List D→E}{kv:List D}{r:D×Sto} (hc:zfr ev is=some kv) (hi:zjo kv=true) (h:F kv ev S=some r):eCapK is F ev S=some r:=by
 unfold eCapK
 simp only [hc,Option.bind_some,hi,if_true,h]
theorem callB_e {g:G}{a:As}{q:Nat}{t:LT}{cl:List (Str×Addr)}{ds kv:List D}{S2:Sto} (hq:ev[q]? = some (some (.lam { t with cl:=cl }))) (ha:a ev S=some (ds,S1)) (hn:(noCL ds && noCL kv && noCS S1)=true) (hl:ds.length=t.params.args.length) (hg:g (ds++kv) S1=some (d,S2)) (h1:noC d=true) (h2:noCS S2=true):zkr g q t cl kv a ev S=some (d,S2):=by
 unfold zkr
 simp only [hq,if_true,ha,Option.bind_some,hg,h1,h2,Bool.and_self]
 exact if_pos ⟨hn,hl⟩
theorem callD_e {g:G}{a:As}{q:Nat}{t:LT}{cl:List (Str×Addr)}{is:List Nat}{ds kv:List D}{S2:Sto} (ha:a ev S=some (ds,S1)) (hq:ev[q]? = some (some (.lam { t with cl:=cl }))) (hc:zfr ev is=some kv) (hg:g (ds++[.clo t kv]) S1=some (d,S2)) (h1:noC d=true) (h2:noCS S2=true):zkq g a q t cl is ev S=some (d,S2):=by
 simp only [zkq,ha,Option.bind_some,hq,if_true,hc,hg,h1,h2,Bool.and_self]
theorem lam_e {j:Nat}{y:Str}{t:LT} (ht':S[j]? = some (.tab y ((y++".<locals>.")++"<lambda>"))) (ht:t.qual=(y++".<locals>.")++"<lambda>"):eLam j y t ev S=some (.lam t,S):=by
 unfold eLam
 rw [ht']
 exact if_pos ⟨rfl,ht.symm⟩
theorem znj {f:E} (h:f ev S=some (.lst ts,S1)):zgm f ev S=some (.lst ts.reverse,S1):=by simp [zgm,h]
theorem ne_nil (l:List D):opNe (.lst l) (.lst [])=some (.bl !l.isEmpty):=by cases l <;> rfl
theorem cutD_mem {lo hi:Option Int} (hx:x∈cutD ts lo hi):x∈ts:=List.mem_of_mem_drop (List.mem_of_mem_take hx)
theorem cutD_len (lo hi:Option Int):(cutD ts lo hi).length≤ts.length:=by
 unfold cutD;rw [List.length_take,List.length_drop];omega
theorem lt10:lt_1≠lt_0:=fun e=>by
 have:=congrArg (fun t:LT=>t.params.args.length) e
 exact absurd this (by decide)
theorem gl1_ok {κ:Int} (h0:0≤κ) (h1:κ < 8) (tx:TkOf κ x) (ty:TkOf κ y):gl_1 ([x,y]++[.int κ]) S=some (.bl (ltk κ x y),S):=by
 show ge_1 [some x,some y,some (.int κ)] S=_
 exact e_2 (zag (a_c (e_v rfl) (a_c (e_v rfl) a_n)) (zns h0 h1 tx)) (zag (a_c (e_v rfl) (a_c (e_v rfl) a_n)) (zns h0 h1 ty)) (klt_ok h0 h1 tx ty)
theorem gl0_ok {κ:Int} (h0:0≤κ) (h1:κ < 8) (tx:TkOf κ x):gl_0 ([x]++[.int κ]) S=some (kyOf κ x,S):=by
 show ge_0 [some x,some (.int κ)] S=_
 exact zag (a_c (e_v rfl) (a_c (e_v rfl) a_n)) (zns h0 h1 tx)
theorem bf_of {κ:Int} (h0:0≤κ) (h1:κ < 8):Bf (TkOf κ) (ltk κ) lt_1 [.int κ] :=
 ⟨rfl,rfl,fun x hx=>zov hx,⟨gl_1,by unfold clot;rw [if_neg lt10,if_pos rfl],fun x y hx hy S=>gl1_ok h0 h1 hx hy⟩,sw_k κ⟩
noncomputable def kT:B:=(bE (e2 opEq (zak zbb (aC (eV 1) (aC (eV 0) aN))) (zak zbb (aC (eV 1) (aC (eV 2) aN)))))
theorem kT_ok {κ:Int} (h0:0≤κ) (h1:κ < 8) (tx:TkOf κ x) (ty:TkOf κ y):kT [some x,some (.int κ),some y] S=some (decide (cc κ x=cc κ y),S) :=
 b_of (e_2 (zag (a_c (e_v rfl) (a_c (e_v rfl) a_n)) (zns h0 h1 tx)) (zag (a_c (e_v rfl) (a_c (e_v rfl) a_n)) (zns h0 h1 ty)) (keq_ok h0 h1 tx ty))
noncomputable def sB:C:=(sSeq (sSet 6 (zak zbq (aC (eV 1) (aC (zak zaw (aC (eV 0) (aC (e2 zbm (eV 2) (eV 5)) aN))) aN)))) (sIf (bE (e2 opEq (zko [1,6] (eV 4) kT (eV 0)) (eLst aN))) (zgy (eV 4) (eV 6)) sNil))
theorem zib (ns:List Int) (hn:ns.length≤63) {κ:Int} (h0:0≤κ) (h1:κ < 8) {f m:Int} (f0:0≤f) (f1:f < 10000):∀(js:List D),(∀x∈js,∃i:Int,x=.int i∧0≤i∧i < 10000)→∀(us:List D) (o5 o6:Option D),Al (TkOf κ) us→us.Pairwise (fun x y=>cc κ x≠cc κ y)→us.length + js.length < 100000 →
   ∃us' o5' o6',Al (TkOf κ) us'∧us'.Pairwise (fun x y=>cc κ x≠cc κ y)∧us'.length≤us.length + js.length∧zfz 5 sB js [some (.lst (ns.map D.int)),some (.int κ),some (.int f),some (.int m),some (.obj S.length),o5,o6] (S++[.lst us])=some (.nx [some (.lst (ns.map D.int)),some (.int κ),some (.int f),some (.int m),some (.obj S.length),o5',o6'],S++[.lst us'])
 | [],_,us,o5,o6,al,pw,hl=>⟨us,o5,o6,al,pw,by simp,rfl⟩
 | jj::js,hj,us,o5,o6,al,pw,hl=>by
   obtain ⟨i,rfl,i0,i1⟩:=hj jj (List.mem_cons_self ..)
   rw [List.length_cons] at hl
   obtain ⟨c,c0,c1,hc⟩:=zfd ns hn (q:=f + i) (by omega) (by omega)
   obtain ⟨x,tx,cx⟩:=zqn h0 h1 c c0 c1
   have hat:(S++[MO.lst us])[S.length]? = some (.lst us):=zls S _
   have cmp:zko [1,6] (eV 4) kT (eV 0) [some (.lst (ns.map D.int)),some (.int κ),some (.int f),some (.int m),some (.obj S.length),some (.int i),some x] (S++[.lst us])=some (.lst (us.filter fun z=>decide (cc κ z=cc κ x)),S++[.lst us]):=compOf (e_v rfl) hat fun z hz=>kT_ok h0 h1 (al z hz) tx
   have step1:sSet 6 (zak zbq (aC (eV 1) (aC (zak zaw (aC (eV 0) (aC (e2 zbm (eV 2) (eV 5)) aN))) aN))) [some (.lst (ns.map D.int)),some (.int κ),some (.int f),some (.int m),some (.obj S.length),some (.int i),o6] (S++[.lst us])=some (.nx [some (.lst (ns.map D.int)),some (.int κ),some (.int f),some (.int m),some (.obj S.length),some (.int i),some x],S++[.lst us]):=zao (zag (a_c (e_v rfl) (a_c (zag (a_c (e_v rfl) (a_c (e_2 (e_v rfl) (e_v rfl) (add_int _ _)) a_n)) (hc _)) a_n)) (cx _))
   have tst:=b_of (e_2 cmp (e_lst (ds:=[]) a_n (Nat.zero_le _)) (eq_nil _))
   by_cases hf:us.filter (fun z=>decide (cc κ z=cc κ x))=[]
   · have hne:∀z∈us,cc κ z≠cc κ x:=fun z hz e=>by
       have:=List.filter_eq_nil_iff.mp hf z hz
       exact this (decide_eq_true e)
     rw [hf] at tst
     obtain ⟨us',o5',o6',al',pw',l',ih⟩:=zib ns hn h0 h1 f0 f1 js (fun x hx=>hj x (List.mem_cons_of_mem _ hx)) (us++[x]) (some (.int i)) (some x) (fun z hz=>(List.mem_append.mp hz).elim (al z) fun e=>by rw [List.mem_singleton.mp e];exact tx) (List.pairwise_append.mpr ⟨pw,List.pairwise_singleton _ _,fun a ha b hb=>by rw [List.mem_singleton.mp hb];exact hne a ha⟩) (by rw [List.length_append];simp;omega)
     refine ⟨us',o5',o6',al',pw',by rw [List.length_append] at l';simp at l' ⊢;omega,zlp (zaf step1 (zbd tst ?_)) ih⟩
     have:=znb (q:=4) (j:=S.length) (S:=S++[.lst us]) (us:=us) (v:=eV 6) (x:=x) (ev:=[some (.lst (ns.map D.int)),some (.int κ),some (.int f),some (.int m),some (.obj S.length),some (.int i),some x]) rfl hat (e_v rfl) (by omega)
     simpa using this
   · have he:(us.filter fun z=>decide (cc κ z=cc κ x)).isEmpty=false:=by
       cases g:us.filter fun z=>decide (cc κ z=cc κ x) with
       | nil=>exact absurd g hf
       | cons _ _=>rfl
     rw [he] at tst
     obtain ⟨us',o5',o6',al',pw',l',ih⟩:=zib ns hn h0 h1 f0 f1 js (fun x hx=>hj x (List.mem_cons_of_mem _ hx)) us (some (.int i)) (some x) al pw (by omega)
     exact ⟨us',o5',o6',al',pw',by rw [List.length_cons];omega,zlp (zaf step1 (zaj tst)) ih⟩
theorem zvv {κ:Int}:∀{l:List D},Al (TkOf κ) l→noCL l=true
 | [],_=>rfl
 | x::l,h=>by
   unfold noCL
   rw [zkj (zov h.head),zvv h.tail];rfl
theorem some_ok (ns:List Int) (hn:ns.length≤63) {κ:Int} (h0:0≤κ) (h1:κ < 8) {f:Int} (f0:0≤f) (f1:f < 10000) {m:Nat} (hm:m≤1000) (hS:SB S) (hc:noCS S=true) (ht:S[1]? = some (.tab "_law_some" ((("_law_some":Str)++".<locals>.")++"<lambda>"))) (h2:2≤S.length) :
   ∃ts,Al (TkOf κ) ts∧Srt (ltk κ) ts∧ts.length≤m∧zel [.lst (ns.map D.int),.int κ,.int f,.int m] S=some (.lst ts,S):=by
 obtain ⟨us,o5,o6,al,pw,hl,lp⟩:=zib ns hn h0 h1 f0 f1 (S:=S) (m:=m) (zbr 0 m) (rng (by omega)) [] none none (fun x hx=>by cases hx) List.Pairwise.nil (by rw [zoz];simp;omega)
 rw [zoz] at hl
 have hn2:noCS (S++[.lst us])=true:=by
   unfold noCS at *
   rw [List.all_append,hc]
   show (true && (noCM (.lst us) && true))=true
   rw [show noCM (.lst us)=noCL us from rfl,zvv al];rfl
 refine ⟨zcm (cc κ) us,zrk al,zwe pw,by rw [(zcq us).length_eq];simpa using hl,?_⟩
 refine frz_lst (J:=[.lst us]) hS (b_rt rfl (zaf (zao (e_newL a_n (Nat.zero_le _))) (zaf (zuq (n:=(m:Int)) (b:=sB) (S1:=S++[.lst []]) (e_v rfl) (by omega) (by omega) (by rw [Int.toNat_natCast];exact lp)) (zau (sortC_e (us:=us) (kv:=[.int κ]) (ks:=us.map (kyOf κ)) (e_v rfl) ?_ ?_ (by simp at hl;omega) rfl ?_ (sortD_ok h0 h1 al pw)))))) (zgf (k:=0) fun x hx=>zov (zrk al x hx))
 · show (match (S++[MO.lst us])[S.length]? with | some (.lst ds)=>some ds | _=>none)=some us
   rw [zls]
 · rw [List.getElem?_append_left (by omega)];exact ht
 · exact zrh hn2 rfl fun x hx=>⟨zkj (zov (al x hx)),noC_ky h0 h1 (al x hx),gl0_ok h0 h1 (al x hx)⟩
def tA:MO:=.tab "_law_asked" ((("_law_asked":Str)++".<locals>.")++"<lambda>")
def tS:MO:=.tab "_law_some" ((("_law_some":Str)++".<locals>.")++"<lambda>")
def Z (n:Int):Sto:=[tA,tS,wd (addv 0) n]
theorem z_eq {new:List D}{T:Sto} (w:Wt 0 2 (Z n) n new T):T=Z (n + new.length):=by
 apply List.ext_getElem?
 intro q
 match q with
 | 0=>rw [w.ne 0 (by omega)];rfl
 | 1=>rw [w.ne 1 (by omega)];rfl
 | 2=>exact w.at_
 | q + 3=>rw [w.ne (q + 3) (by omega)];rfl
theorem z_no:noCS (Z n)=true:=rfl
theorem z_sb:SB (Z n):=fun m hm=>by
 show bndM 3 m=true
 rcases List.mem_cons.mp hm with rfl | hm
 · rfl
 rcases List.mem_cons.mp hm with rfl | hm
 · rfl
 rw [List.mem_singleton.mp hm];exact wd_bnd (k:=0) _ _
theorem zug {s e:Nat} (hs:s≤e) (he:e≤ts.length):turn s e (turn s e ts)=ts:=by
 unfold turn
 have l1:(ts.take s).length=s:=by rw [List.length_take];omega
 have l2:(((ts.take e).drop s).reverse).length=e - s:=by rw [List.length_reverse,List.length_drop,List.length_take];omega
 have t1:(ts.take s++((ts.take e).drop s).reverse++ts.drop e).take s=ts.take s:=by
   rw [List.append_assoc,List.take_append_of_le_length (by omega),List.take_of_length_le (by omega)]
 have t2:(ts.take s++((ts.take e).drop s).reverse++ts.drop e).take e=ts.take s++((ts.take e).drop s).reverse:=by
   rw [List.take_append_of_le_length (by rw [List.length_append];omega),List.take_of_length_le (by rw [List.length_append];omega)]
 have t3:(ts.take s++((ts.take e).drop s).reverse++ts.drop e).drop e=ts.drop e:=by
   rw [List.drop_append_of_le_length (by rw [List.length_append];omega),List.drop_of_length_le (by rw [List.length_append];omega),List.nil_append]
 rw [t1,t2,t3,List.drop_append_of_le_length (by omega),List.drop_of_length_le (by omega),List.nil_append,List.reverse_reverse]
 have:ts.take s++(ts.take e).drop s=ts.take e:=by
   have h:=List.take_append_drop s (ts.take e)
   rw [List.take_take,Nat.min_eq_left hs] at h;exact h
 rw [this,List.take_append_drop]
theorem set_ok (ns:List Int) (hn:ns.length≤63) (ht:∀x∈ts,Thing 0 x) (hl:ts.length≤1000):∃d h n',Mk 0 d ts h∧zfn [.lst (ns.map D.int),.obj 2,.lst ts] (Z n)=some (d,Z n'):=by
 obtain ⟨c,c0,c1,hc⟩:=zfd ns hn (q:=3) (by decide) (by decide)
 obtain ⟨w,hw,ew⟩:=zvx c (c:=3) (by decide)
 have s1:sSet 3 (e2 zcw (zak zaw (aC (eV 0) (aC (eK (.int 3)) aN))) (eK (.int 3))) [some (.lst (ns.map D.int)),some (.obj 2),some (.lst ts),none,none,none,none] (Z n)=some (.nx [some (.lst (ns.map D.int)),some (.obj 2),some (.lst ts),some (.int w),none,none,none],Z n):=zao (e_2 (zag (a_c (e_v rfl) (a_c e_k a_n)) (hc _)) e_k ew)
 have:w=0∨w=1∨w=2:=by omega
 rcases this with rfl | rfl | rfl
 · obtain ⟨d,h,new,T1,c,rr⟩:=zhb (k:=0) (i:=2) (n:=n) (P:=fun _=>True) (S:=Z n) rfl ht (by omega)
   have eT:=z_eq rr.wt
   subst eT
   exact ⟨d,h,_,rr.mm,b_rt rfl (zaf s1 (zbi (zbd (b_of (e_2 (e_v rfl) e_k rfl)) (zau (zag (a_c (e_v rfl) (a_c (listV_e (e_v rfl)) a_n)) c)))))⟩
 · obtain ⟨d,h,new,T1,c,rr⟩:=zhb (k:=0) (i:=2) (n:=n) (P:=fun _=>True) (S:=Z n) (ts:=ts.reverse) rfl (rev_th ht) (by rw [List.length_reverse];omega)
   have eT:=z_eq rr.wt
   subst eT
   obtain ⟨d',new',T2,c',rr',_⟩:=zqk (k:=0) (i:=2) (n:=n + new.length) (P:=fun _=>True) (S:=Z (n + new.length)) rr.mm rfl (all_T rr.mm)
   have eT:=z_eq rr'.wt
   subst eT
   have mm:=rr'.mm
   rw [List.reverse_reverse] at mm
   exact ⟨d',h,_,mm,b_rt rfl (zaf s1 (zaf (zaj (b_of (e_2 (e_v rfl) e_k rfl))) (zbi (zbd (b_of (e_2 (e_v rfl) e_k rfl)) (zau (zdd (e_v rfl) (zbl (n:=n) rfl) (zgh _ _) (a_c (zag (a_c (e_v rfl) (a_c (znj (e_v rfl)) a_n)) c) a_n) c'))))))⟩
 · obtain ⟨c4,_,_,hc4⟩:=zfd ns hn (q:=4) (by decide) (by decide)
   obtain ⟨c5,_,_,hc5⟩:=zfd ns hn (q:=5) (by decide) (by decide)
   obtain ⟨s,hs,es⟩:=zvy c4 ts.length
   obtain ⟨e,he,ee⟩:=zvy c5 (ts.length - s)
   have e1:zcw (.int c5) (.int ((ts.length:Int) + 1 - (s:Int)))=some (.int e):=by
     rw [show (ts.length:Int) + 1 - (s:Int)=((ts.length - s:Nat):Int) + 1 by omega];exact ee
   have hse:s≤s + e:=by omega
   have hel:s + e≤ts.length:=by omega
   have tt:∀z∈turn s (s + e) ts,Thing 0 z:=fun z hz=>ht z (by
     unfold turn at hz
     rcases List.mem_append.mp hz with q | q
     · rcases List.mem_append.mp q with q | q
       · exact List.mem_of_mem_take q
       · exact List.mem_of_mem_take (List.mem_of_mem_drop (List.mem_reverse.mp q))
     · exact List.mem_of_mem_drop q)
   obtain ⟨d,h,new,T1,c,rr⟩:=zhb (k:=0) (i:=2) (n:=n) (P:=fun _=>True) (S:=Z n) (ts:=turn s (s + e) ts) rfl tt (by rw [zld hse hel];omega)
   have eT:=z_eq rr.wt
   subst eT
   obtain ⟨d',h',new',T2,c',rr'⟩:=zjq (k:=0) (i:=2) (n:=n + new.length) (P:=fun _=>True) (S:=Z (n + new.length)) (s:=s) (e:=s + e) rfl rr.mm (by rw [zld hse hel];omega) hse (by rw [zld hse hel];exact hel) (all_T rr.mm)
   have eT:=z_eq rr'.wt
   subst eT
   have mm:=rr'.mm
   rw [zug hse hel] at mm
   refine ⟨d',h',_,mm,b_rt rfl (zaf s1 (zaf (zaj (b_of (e_2 (e_v rfl) e_k rfl))) (zaf (zaj (b_of (e_2 (e_v rfl) e_k rfl))) (zaf (zao (e_2 (zag (a_c (e_v rfl) (a_c e_k a_n)) (hc4 _)) (e_2 (e_a (a_c (e_v rfl) a_n) rfl) e_k (add_int _ _)) es)) (zaf (zao (d:=.int ((s + e:Nat):Int)) (e_2 (e_v rfl) (e_2 (zag (a_c (e_v rfl) (a_c e_k a_n)) (hc5 _)) (e_2 (e_2 (e_a (a_c (e_v rfl) a_n) rfl) e_k (add_int _ _)) (e_v rfl) (sub_int _ _)) e1) (add_int _ _))) (zaf (zao (znj (e_sl (e_v rfl) (p_e (e_v rfl)) (p_e (e_v rfl)) (sl_mid hse hel)))) (zau (zag (a_c (e_v rfl) (a_c (zag (a_c (e_v rfl) (a_c (e_2 (e_2 (e_sl (e_v rfl) p_n (p_e (e_v rfl)) (sl_to s)) (e_v rfl) (zjp (by simp only [List.length_take,List.length_reverse,List.length_drop];omega))) (e_sl (e_v rfl) (p_e (e_v rfl)) p_n (sl_from hel)) (zjp (by simp only [List.length_append,List.length_take,List.length_reverse,List.length_drop];omega))) a_n)) c) (a_c (e_v rfl) (a_c (e_v rfl) a_n)))) c'))))))))⟩
end Pg
set_option maxHeartbeats 8000000
namespace Pg
open PySem L2 F
noncomputable section
def c_law:C :=
 (sSeq (sSet 1 (e2 zcw (zak zaw (aC (eV 0) (aC (eK (.int 0)) aN))) (eK (.int 8)))) (sSeq (sSet 2 (e2 zcw (zak zaw (aC (eV 0) (aC (eK (.int 1)) aN))) (eK (.int 15)))) (sSeq (sIf (bE (e2 opEq (e2 zcw (zak zaw (aC (eV 0) (aC (eK (.int 2)) aN))) (eK (.int 8))) (eK (.int 3)))) (sSet 2 (eK (.int 70))) sNil) (sSeq (sSet 3 (zak zel (aC (eV 0) (aC (eV 1) (aC (eK (.int 20)) (aC (eV 2) aN)))))) (sSeq (sSet 4 (zak zfn (aC (eV 0) (aC (eMake "Wood" (dflt 1 zbs) aN) (aC (eV 3) aN))))) (sSeq (sSet 5 (e2 zbm (e2 zbm (zrx [1,0] (eK (.int 8)) (zak zbq (aC (eV 1) (aC (zak zaw (aC (eV 2) (aC (e2 zbm (eK (.int 100)) (eV 0)) aN))) aN)))) (eSl (eV 3) pN (pE (eK (.int 3))))) (eSl (eV 3) (pE (e1 negD (eK (.int 3)))) pN))) (sSeq (sForL 6 (e2 zbm (eV 5) (eSl (eV 5) pN (pE (eK (.int 2))))) (sIf (bNot (bE (zak zdj (aC (eV 4) (aC (eV 3) (aC (eV 6) (aC (eV 1) aN))))))) (sRet (eK (.bl false))) sNil)) (sRet (e2 opEq (zak zdt (aC (eV 4) aN)) (eV 3))))))))))
def g_law:G:=zaz 7 1 c_law
end
end Pg
set_option maxHeartbeats 4000000
namespace Pg
open PySem L2 F Mt
variable {d d0 l r t x y:D}{ts us rt:List D}{h i j g rh:Nat}{n:Int}{S S0 S1:Sto}{ev:Ev}{T:D→Prop}{lt:D→D→Bool}{f:LT}{vs:List D}
theorem asked_ok {κ:Int} (h0:0≤κ) (h1:κ < 8) (s:Ste (TkOf κ) (ltk κ) d ts h) (hl:ts.length≤1000) (tx:TkOf κ x):zdj [d,.lst ts,x,.int κ] (Z n)=some (.bl true,Z n):=by
 have B:=bf_of h0 h1
 have c1:=zng B (z_no (n:=n)) tx s (by omega)
 have c2:=has_ok B (z_no (n:=n)) tx s (by omega)
 refine gA_of fun cl=>?_
 have due:eA lenD (aC (eCapK [3] fun kv=>zhi [4,2] (eV 1) (bE (zkr gl_1 1 lt_1 cl kv (aC (eV 0) (aC (eV 2) aN)))) (eV 0)) aN) [some d,some (.lst ts),some x,some (.int κ),some (.lam { lt_1 with cl:=cl }),none,none,none] (Z n)=some (.int (cb (ltk κ) ts x:Nat),Z n):=by
   refine e_a (a_c (capK_e (kv:=[.int κ]) rfl rfl (compLf (p:=fun z=>ltk κ z x) (e_v rfl) fun z hz=>b_of (callB_e (ds:=[z,x]) rfl (a_c (e_v rfl) (a_c (e_v rfl) a_n)) ?_ rfl (gl1_ok h0 h1 (s.al z hz) tx) rfl z_no))) a_n) rfl
   rw [z_no];simp only [noCL,zkj (zov (s.al z hz)),zkj (zov tx),noC,Bool.and_true]
 have rest:e2 opNe (zhi [3,2] (eV 1) kT (eV 0)) (eLst aN) [some d,some (.lst ts),some x,some (.int κ),some (.lam { lt_1 with cl:=cl }),some (.int (cb (ltk κ) ts x:Nat)),some (.int (cb (ltk κ) ts x:Nat)),some (.bl (hs (ltk κ) ts x))] (Z n)=some (.bl (hs (ltk κ) ts x),Z n):=by
   refine e_2 (compLf (p:=fun z=>decide (cc κ z=cc κ x)) (e_v rfl) fun z hz=>kT_ok h0 h1 (s.al z hz) tx) (e_lst (ds:=[]) a_n (Nat.zero_le _)) ((ne_nil _).trans ?_)
   congr 2
   rw [Bool.eq_iff_iff,hs_iff]
   constructor
   · intro q
     cases g:ts.filter (fun z=>decide (cc κ z=cc κ x)) with
     | nil=>rw [g] at q;cases q
     | cons z m =>
       have hz:z∈ts.filter (fun z=>decide (cc κ z=cc κ x)):=by rw [g];exact List.mem_cons_self ..
       obtain ⟨z1,z2⟩:=List.mem_filter.mp hz
       exact ⟨z,z1,alk_cc.mpr (of_decide_eq_true z2)⟩
   · rintro ⟨z,hz,a⟩
     have hz:z∈ts.filter (fun z=>decide (cc κ z=cc κ x)):=List.mem_filter.mpr ⟨hz,decide_eq_true (alk_cc.mp a)⟩
     cases g:ts.filter (fun z=>decide (cc κ z=cc κ x)) with
     | nil=>rw [g] at hz;cases hz
     | cons z m=>rfl
 exact b_rt rfl (zaf (zao (lam_e (y:="_law_asked") rfl rfl)) (zaf (zao due) (zaf (zao (callD_e (a_c (e_v rfl) (a_c (e_v rfl) a_n)) rfl rfl c1 rfl z_no)) (zaf (zao (callD_e (a_c (e_v rfl) (a_c (e_v rfl) a_n)) rfl rfl c2 rfl z_no)) (zaf (zaj (b_orF (b_nT (b_of (e_a (a_c (e_v rfl) (a_c e_k a_n)) rfl))) (b_orF (b_of (e_a (a_c (e_v rfl) (a_c e_k a_n)) rfl)) (b_orF (b_of (e_2 (e_v rfl) (e_v rfl) (ne_pl rfl))) (b_nT (b_of (e_a (a_c (e_v rfl) (a_c e_k a_n)) rfl))))))) (zau (e_2 (e_v rfl) rest (by rw [eq_bl];simp))))))))
noncomputable def thE:E:=(zak zbq (aC (eV 1) (aC (zak zaw (aC (eV 2) (aC (e2 zbm (eK (.int 100)) (eV 0)) aN))) aN)))
theorem zul (ns:List Int) (hn:ns.length≤63) {κ:Int} (h0:0≤κ) (h1:κ < 8):∀(js:List D),(∀x∈js,∃i:Int,x=.int i∧0≤i∧i < 10000)→∃l,Al (TkOf κ) l∧l.length=js.length∧∀S,ztt thE [some (.int κ),some (.lst (ns.map D.int))] js S=some (l,S)
 | [],_=>⟨[],fun x hx=>(by cases hx),rfl,fun S=>rfl⟩
 | jj::js,hj=>by
   obtain ⟨i,rfl,i0,i1⟩:=hj jj (List.mem_cons_self ..)
   obtain ⟨c,c0,c1,hc⟩:=zfd ns hn (q:=100 + i) (by omega) (by omega)
   obtain ⟨x,tx,cx⟩:=zqn h0 h1 c c0 c1
   obtain ⟨l,al,ll,ih⟩:=zul ns hn h0 h1 js fun x hx=>hj x (List.mem_cons_of_mem _ hx)
   refine ⟨x::l,fun z hz=>(List.mem_cons.mp hz).elim (fun e=>e ▸ tx) (al z),by rw [List.length_cons,ll,List.length_cons],fun S=>?_⟩
   have e:thE [some (.int i),some (.int κ),some (.lst (ns.map D.int))] S=some (x,S):=zag (a_c (e_v rfl) (a_c (zag (a_c (e_v rfl) (a_c (e_2 e_k (e_v rfl) (add_int _ _)) a_n)) (hc _)) a_n)) (cx _)
   unfold ztt
   simp only [e,Option.bind_some,ih]
noncomputable def aB:C:=(sIf (bNot (bE (zak zdj (aC (eV 4) (aC (eV 3) (aC (eV 6) (aC (eV 1) aN))))))) (sRet (eK (.bl false))) sNil)
theorem zsj {κ:Int} (h0:0≤κ) (h1:κ < 8) (s:Ste (TkOf κ) (ltk κ) d ts h) (hl:ts.length≤1000) (a0 a2 a5:D):∀(js:List D),Al (TkOf κ) js→∀o,∃o',zfz 6 aB js [some a0,some (.int κ),some a2,some (.lst ts),some d,some a5,o] (Z n)=some (.nx [some a0,some (.int κ),some a2,some (.lst ts),some d,some a5,o'],Z n)
 | [],_,o=>⟨o,rfl⟩
 | x::js,al,o=>by
   obtain ⟨o',ih⟩:=zsj h0 h1 s hl a0 a2 a5 js al.tail (some x)
   exact ⟨o',zlp (zaj (b_nT (b_of (zag (a_c (e_v rfl) (a_c (e_v rfl) (a_c (e_v rfl) (a_c (e_v rfl) a_n)))) (asked_ok h0 h1 s hl al.head))))) ih⟩
theorem law_ok:LawOkT tabs g_law:=by
 intro ns hn
 obtain ⟨c0,_,_,hc0⟩:=zfd ns hn (q:=0) (by decide) (by decide)
 obtain ⟨c1,_,_,hc1⟩:=zfd ns hn (q:=1) (by decide) (by decide)
 obtain ⟨c2,_,_,hc2⟩:=zfd ns hn (q:=2) (by decide) (by decide)
 have h0:=Int.emod_nonneg c0 (show (8:Int)≠0 by decide)
 have h1:=Int.emod_lt_of_pos c0 (show (0:Int) < 8 by decide)
 generalize hκ:c0 % 8=κ at *
 obtain ⟨m0,hm0,em0⟩:=zvx c1 (c:=15) (by decide)
 obtain ⟨m,hm,s3⟩:∃m:Nat,m≤70∧sIf (bE (e2 opEq (e2 zcw (zak zaw (aC (eV 0) (aC (eK (.int 2)) aN))) (eK (.int 8))) (eK (.int 3)))) (sSet 2 (eK (.int 70))) sNil [some (.lst (ns.map D.int)),some (.int κ),some (.int m0),none,none,none,none] [tA,tS]=some (.nx [some (.lst (ns.map D.int)),some (.int κ),some (.int m),none,none,none,none],[tA,tS]):=by
   by_cases q:c2 % 8=3
   · exact ⟨70,by omega,zbd (b_of (e_2 (e_2 (zag (a_c (e_v rfl) (a_c e_k a_n)) (hc2 _)) e_k (zeu (by decide))) e_k ((eq_w _ _).trans (by rw [decide_eq_true q])))) (zao e_k)⟩
   · exact ⟨m0,by omega,zaj (b_of (e_2 (e_2 (zag (a_c (e_v rfl) (a_c e_k a_n)) (hc2 _)) e_k (zeu (by decide))) e_k ((eq_w _ _).trans (by rw [decide_eq_false q]))))⟩
 have sb2:SB [tA,tS]:=fun m hm=>by
   rcases List.mem_cons.mp hm with rfl | hm
   · rfl
   rw [List.mem_singleton.mp hm];rfl
 obtain ⟨ts,al,sr,tl,cs⟩:=some_ok (S:=[tA,tS]) ns hn h0 h1 (f:=20) (by decide) (by decide) (m:=m) (by omega) sb2 rfl rfl (Nat.le_refl _)
 obtain ⟨d,h,n',mm,cd⟩:=set_ok (n:=0) ns hn (ts:=ts) (fun x hx=>zov (al x hx)) (by omega)
 have s:Ste (TkOf κ) (ltk κ) d ts h:=⟨mm,al,sr⟩
 obtain ⟨l8,a8,ll8,c8⟩:=zul ns hn h0 h1 (zbr 0 8) (rng (by decide))
 rw [zoz] at ll8
 have alA:Al (TkOf κ) (l8++ts.take 3++cutD ts (some (-3)) none):=fun z hz=>by
   rcases List.mem_append.mp hz with q | q
   · exact (List.mem_append.mp q).elim (a8 z) fun w=>al z (List.mem_of_mem_take w)
   · exact al z (cutD_mem q)
 have lc:(cutD ts (some (-3)) none).length≤ts.length:=cutD_len _ _
 generalize hA:l8++ts.take 3++cutD ts (some (-3)) none=as at alA
 have lA:as.length≤1000:=by rw [← hA];simp only [List.length_append,List.length_take];omega
 have alB:Al (TkOf κ) (as++as.take 2):=fun z hz=>(List.mem_append.mp hz).elim (alA z) fun w=>alA z (List.mem_of_mem_take w)
 obtain ⟨o',lp⟩:=zsj (n:=n') h0 h1 s (by omega) (.lst (ns.map D.int)) (.int m) (.lst as) (as++as.take 2) alB none
 refine ⟨Z n',b_rt rfl (zaf (zao (d:=.int κ) (e_2 (zag (a_c (e_v rfl) (a_c e_k a_n)) (hc0 _)) e_k ((zeu (by decide)).trans (by rw [hκ])))) (zaf (zao (e_2 (zag (a_c (e_v rfl) (a_c e_k a_n)) (hc1 _)) e_k em0)) (zaf s3 (zaf (zao (zag (a_c (e_v rfl) (a_c (e_v rfl) (a_c e_k (a_c (e_v rfl) a_n)))) cs)) (zaf (zao (zag (a_c (e_v rfl) (a_c wood_e0 (a_c (e_v rfl) a_n))) cd)) (zaf (zao (d:=.lst as) (e_2 (e_2 (e_compR (c:=8) e_k (by decide) (by decide) (c8 _)) (e_sl (e_v rfl) p_n (p_e e_k) (sl_to 3)) (zjp (by simp only [List.length_take];omega))) (e_sl (e_v rfl) (p_e (e_1 e_k rfl)) p_n rfl) ((zjp (by simp only [List.length_append,List.length_take];omega)).trans (by rw [hA])))) (zaf (st_forL (b:=aB) (ds:=as++as.take 2) (e_2 (e_v rfl) (e_sl (e_v rfl) p_n (p_e e_k) (sl_to 2)) (zjp (by simp only [List.length_take];omega))) lp) (zau (e_2 (zag (a_c (e_v rfl) a_n) (zna mm (by omega) z_sb)) (e_v rfl) (eq_pl (pl_mono (by decide) (pl_lst mm.things))))))))))))⟩
end Pg
set_option maxHeartbeats 8000000
namespace Pg
open PySem L2 F PySem.Spec PyProof.Rows
variable {P:Program}{w:World}{K:PySem.W.Frag}{mg:Str→Option Value}{base:Heap}{f:Addr}{cdv:Value}{A:Around}{outer:List Env}{s:Shared}{H:Hp}{E:XK}
seal F.FE F.FB F.FW F.FA F.FS F.FSs F.FPt
def top (i:Nat):Stmt:=PySem.Challenge.pw_ownshelf_k20_places_in_a_set.main.body.getD i (.Pass ⟨0,0,0,0⟩)
abbrev s_Wood___init__:Stmt:=zmd (top 39) 0
abbrev s__law_key:Stmt:=top 60
abbrev s_check_place:Stmt:=top 41
abbrev s_size:Stmt:=top 19
abbrev s_seen:Stmt:=top 24
abbrev s_thing_at:Stmt:=top 48
abbrev s_at:Stmt:=top 47
abbrev s_is_alike_at:Stmt:=top 57
abbrev s_count_before:Stmt:=top 55
abbrev s_place_of:Stmt:=top 54
abbrev s_has:Stmt:=top 56
abbrev s__law_asked:Stmt:=top 64
abbrev s__law_cell:Stmt:=top 59
abbrev s_Wood_numbered:Stmt:=zmd (top 39) 4
abbrev s_back:Stmt:=top 22
abbrev s_height:Stmt:=top 20
abbrev s_total:Stmt:=top 21
abbrev s_Wood_turned:Stmt:=zmd (top 39) 3
abbrev s_check_room:Stmt:=top 38
abbrev s_height_above:Stmt:=top 26
abbrev s_in_balance:Stmt:=top 27
abbrev s_size_above:Stmt:=top 25
abbrev s_backward_sum:Stmt:=top 30
abbrev s_onward_sum:Stmt:=top 29
abbrev s_sums_above:Stmt:=top 28
abbrev s_Wood_node:Stmt:=zmd (top 39) 2
abbrev s_built:Stmt:=top 44
abbrev s_make_of:Stmt:=top 43
abbrev s_check_stretch:Stmt:=top 42
abbrev s_parts:Stmt:=top 23
abbrev s_lifted_left:Stmt:=top 34
abbrev s_lifted_right:Stmt:=top 35
abbrev s_balanced:Stmt:=top 33
abbrev s_joined:Stmt:=top 32
abbrev s_cut_ahead:Stmt:=top 51
abbrev s_laid_together:Stmt:=top 50
abbrev s_taken_out:Stmt:=top 49
abbrev s_turned_part:Stmt:=top 52
abbrev s__law_set:Stmt:=top 63
abbrev s__law_thing:Stmt:=top 61
abbrev s__law_some:Stmt:=top 62
abbrev s_gather:Stmt:=top 46
abbrev s_things_of:Stmt:=top 45
abbrev s_law:Stmt:=top 65
structure TX (K:PySem.W.Frag) (mg:Str→Option Value) (base:Heap):Prop where
 b_abs:mg "abs"=none
 b_bool:mg "bool"=none
 b_int:mg "int"=none
 b_isinstance:mg "isinstance"=none
 b_len:mg "len"=none
 b_list:mg "list"=none
 b_max:mg "max"=none
 b_range:mg "range"=none
 b_reversed:mg "reversed"=none
 b_sorted:mg "sorted"=none
 i_ABOUT:∃t,mg "ABOUT"=some (.int 1 t)
 i_AHEAD:∃t,mg "AHEAD"=some (.int 0 t)
 i_BACK:∃t,mg "BACK"=some (.int 8 t)
 i_BEHIND:∃t,mg "BEHIND"=some (.int 2 t)
 i_HEIGHT:∃t,mg "HEIGHT"=some (.int 6 t)
 i_LEFT:∃t,mg "LEFT"=some (.int 2 t)
 i_MIDDLE:∃t,mg "MIDDLE"=some (.int 1 t)
 i_MOST_THINGS:∃t,mg "MOST_THINGS"=some (.int 2000 t)
 i_RIGHT:∃t,mg "RIGHT"=some (.int 4 t)
 i_SIZE:∃t,mg "SIZE"=some (.int 5 t)
 i_THING:∃t,mg "THING"=some (.int 3 t)
 i_TOTAL:∃t,mg "TOTAL"=some (.int 7 t)
 i_TURNED:∃t,mg "TURNED"=some (.int 3 t)
 w_Wood_adding:Fld K mg "Wood" "adding"
 w_Wood_nodes_made:Fld K mg "Wood" "nodes_made"
 blt:BltB base mg
 f_Wood___init__:HasMk K mg "Wood" "Wood.__init__" s_Wood___init__ 1
 f__law_key:HasDef K mg "_law_key" s__law_key 0
 f_check_place:HasDef K mg "check_place" s_check_place 0
 f_size:HasDef K mg "size" s_size 0
 f_seen:HasDef K mg "seen" s_seen 0
 f_thing_at:HasDef K mg "thing_at" s_thing_at 0
 f_at:HasDef K mg "at" s_at 0
 f_is_alike_at:HasDef K mg "is_alike_at" s_is_alike_at 0
 f_count_before:HasDef K mg "count_before" s_count_before 0
 f_place_of:HasDef K mg "place_of" s_place_of 0
 f_has:HasDef K mg "has" s_has 0
 f__law_asked:HasDef K mg "_law_asked" s__law_asked 0
 f__law_cell:HasDef K mg "_law_cell" s__law_cell 0
 f_Wood_numbered:HasMth K mg "Wood" "numbered" "Wood.numbered" s_Wood_numbered
 f_back:HasDef K mg "back" s_back 0
 f_height:HasDef K mg "height" s_height 0
 f_total:HasDef K mg "total" s_total 0
 f_Wood_turned:HasMth K mg "Wood" "turned" "Wood.turned" s_Wood_turned
 f_check_room:HasDef K mg "check_room" s_check_room 0
 f_height_above:HasDef K mg "height_above" s_height_above 0
 f_in_balance:HasDef K mg "in_balance" s_in_balance 0
 f_size_above:HasDef K mg "size_above" s_size_above 0
 f_backward_sum:HasDef K mg "backward_sum" s_backward_sum 0
 f_onward_sum:HasDef K mg "onward_sum" s_onward_sum 0
 f_sums_above:HasDef K mg "sums_above" s_sums_above 0
 f_Wood_node:HasMth K mg "Wood" "node" "Wood.node" s_Wood_node
 f_built:HasDef K mg "built" s_built 0
 f_make_of:HasDef K mg "make_of" s_make_of 0
 f_check_stretch:HasDef K mg "check_stretch" s_check_stretch 0
 f_parts:HasDef K mg "parts" s_parts 0
 f_lifted_left:HasDef K mg "lifted_left" s_lifted_left 0
 f_lifted_right:HasDef K mg "lifted_right" s_lifted_right 0
 f_balanced:HasDef K mg "balanced" s_balanced 0
 f_joined:HasDef K mg "joined" s_joined 0
 f_cut_ahead:HasDef K mg "cut_ahead" s_cut_ahead 0
 f_laid_together:HasDef K mg "laid_together" s_laid_together 0
 f_taken_out:HasDef K mg "taken_out" s_taken_out 0
 f_turned_part:HasDef K mg "turned_part" s_turned_part 0
 f__law_set:HasDef K mg "_law_set" s__law_set 0
 f__law_thing:HasDef K mg "_law_thing" s__law_thing 0
 f__law_some:HasDef K mg "_law_some" s__law_some 0
 f_gather:HasDef K mg "gather" s_gather 0
 f_things_of:HasDef K mg "things_of" s_things_of 0
 f_law:HasDef K mg "law" s_law 0
theorem sl_0:CloScope ["_law_thing_here"] ["_law_kind"] lt_0.scope:=⟨rfl,rfl,rfl,by decide +kernel,(List.forall_mem_cons.mpr ⟨rfl,(fun _ h=>nomatch h)⟩),(List.forall_mem_cons.mpr ⟨rfl,(fun _ h=>nomatch h)⟩),by decide +kernel,by decide +kernel⟩
theorem dl_0 (T:TX K mg base) (C__law_key:Cal P w K mg base 1 "_law_key" zbb) {a c:Addr}{cl:List (Str×Addr)}{A:Around}{outer:List Env}{s:Shared}{H H1:Hp}{E:XK} (hr:Room 1 (A.deeper (PySem.W.envX lt_0.qual lt_0.scope s.heap.objs.size a (.ref c) cl))) :
   FE (cxC P w K mg base ["_law_thing_here", "_law_kind"] lt_0.qual lt_0.scope a (.ref c) cl A outer s H H1 E).nox lt_0.body ge_0:=by
 exact (zae C__law_key (hr.mono (by decide)) (zaa (fe_v 1) (zaa (fe_v 0) zad)))
theorem kl_0 (T:TX K mg base) (C__law_key:Cal P w K mg base 1 "_law_key" zbb):CCal P w K mg base 2 lt_0 gl_0:=CCal.of (t:=lt_0) (ps:=["_law_thing_here"]) (k:=1) (f:=ge_0) sl_0 rfl (fun _ _ _ _=>ls1 fun _=>rfl) (fun a c cl A outer s H H1 E hr=>dl_0 T C__law_key hr)
theorem sl_1:CloScope ["_law_one", "_law_other"] ["_law_kind"] lt_1.scope:=⟨rfl,rfl,rfl,by decide +kernel,(List.forall_mem_cons.mpr ⟨rfl,(List.forall_mem_cons.mpr ⟨rfl,(fun _ h=>nomatch h)⟩)⟩),(List.forall_mem_cons.mpr ⟨rfl,(fun _ h=>nomatch h)⟩),by decide +kernel,by decide +kernel⟩
theorem dl_1 (T:TX K mg base) (C__law_key:Cal P w K mg base 1 "_law_key" zbb) {a c:Addr}{cl:List (Str×Addr)}{A:Around}{outer:List Env}{s:Shared}{H H1:Hp}{E:XK} (hr:Room 1 (A.deeper (PySem.W.envX lt_1.qual lt_1.scope s.heap.objs.size a (.ref c) cl))) :
   FE (cxC P w K mg base ["_law_one", "_law_other", "_law_kind"] lt_1.qual lt_1.scope a (.ref c) cl A outer s H H1 E).nox lt_1.body ge_1:=by
 exact (fe_ltK hr (zae C__law_key (hr.mono (by decide)) (zaa (fe_v 2) (zaa (fe_v 0) zad))) (zae C__law_key (hr.mono (by decide)) (zaa (fe_v 2) (zaa (fe_v 1) zad))))
theorem kl_1 (T:TX K mg base) (C__law_key:Cal P w K mg base 1 "_law_key" zbb):CCal P w K mg base 2 lt_1 gl_1:=CCal.of (t:=lt_1) (ps:=["_law_one", "_law_other"]) (k:=1) (f:=ge_1) sl_1 rfl (fun _ _ _ _=>ls2 fun _ _=>rfl) (fun a c cl A outer s H H1 E hr=>dl_1 T C__law_key hr)
theorem sc_Wood___init__:FnScope ["self", "add"] ["self", "add"] (zab s_Wood___init__):=⟨rfl,rfl,rfl,by decide +kernel,rfl,by decide +kernel,by decide +kernel⟩
theorem zfc (T:TX K mg base) (hr:Room 0 (A.deeper (envOfC "Wood.__init__" (zab s_Wood___init__) s.heap.objs.size f cdv))) :
   FSs (cxOf CX0 P w K mg base ["self", "add"] "Wood.__init__" (zab s_Wood___init__) f cdv A outer s H E).nox (zam s_Wood___init__) zdw:=by
 have nd:=sc_Wood___init__.nd
 exact (zac (zws T.w_Wood_adding (fe_v 0) (fe_v 1)) (zah (zws T.w_Wood_nodes_made (fe_v 0) zai)))
theorem zhq (T:TX K mg base):Mak P w K mg base 1 "Wood" zbs:=T.f_Wood___init__.mk1 sc_Wood___init__ (fun _ _ _ _ _ _ _=>ls2 fun _ _=>⟨_,rfl,rfl⟩) (fun f cdv A outer s H E hr=>zfc T  hr)
theorem zhr (T:TX K mg base):Mak P w K mg base 1 "Wood" (dflt 1 zbs):=T.f_Wood___init__.mk1d sc_Wood___init__ rfl (fun _ _ _ _ _ _ _=>ls1 fun _=>⟨_,rfl,rfl⟩) (fun f cdv A outer s H E hr=>zfc T  hr)
theorem sc__law_key:FnScope ["_law_kind", "_law_thing_here"] ["_law_kind", "_law_thing_here"] (zab s__law_key):=⟨rfl,rfl,rfl,by decide +kernel,rfl,by decide +kernel,by decide +kernel⟩
theorem zts (T:TX K mg base) (hr:Room 0 (A.deeper (envOfC "_law_key" (zab s__law_key) s.heap.objs.size f cdv))) :
   FSs (cxOf CX0 P w K mg base ["_law_kind", "_law_thing_here"] "_law_key" (zab s__law_key) f cdv A outer s H E).nox (zam s__law_key) zkx:=by
 have nd:=sc__law_key.nd
 exact (zac (zbo (zfb hr (fe_v 0) zai) (zah (zal (zen zai (fe_v 1)))) zap) (zac (zbo (zfb hr (fe_v 0) zai) (zah (zal (zdc (zaa (zdk (fe_v 1) zai) (zaa (fe_v 1) zad))))) zap) (zac (zbo (zfb hr (fe_v 0) zai) (zah (zal (znv (fe_v 1) zai))) zap) (zac (zbo (zfb hr (fe_v 0) zai) (zah (zal (fe_abs T.b_abs (zaa (fe_v 1) zad)))) zap) (zac (zbo (zfb hr (fe_v 0) zai) (zah (zal (zdc (zaa (zgl T.b_len (zaa (fe_v 1) zad)) (zaa (fe_v 1) zad))))) zap) (zac (zbo (zfb hr (fe_v 0) zai) (zah (zal (zwy (fe_v 1) zhd (zfa zai)))) zap) (zah (zal (fe_v 1)))))))))
theorem zpk (T:TX K mg base):Cal P w K mg base 1 "_law_key" zbb:=(T.f__law_key.cal sc__law_key (fun _ _ _ _ _ _=>ls2 fun _ _=>rfl) (fun f cdv A outer s H E hr=>zts T  hr))
theorem sc_check_place:FnScope ["place", "end"] ["place", "end"] (zab s_check_place):=⟨rfl,rfl,rfl,by decide +kernel,rfl,by decide +kernel,by decide +kernel⟩
theorem zmo (T:TX K mg base) (hr:Room 0 (A.deeper (envOfC "check_place" (zab s_check_place) s.heap.objs.size f cdv))) :
   FSs (cxOf CX0 P w K mg base ["place", "end"] "check_place" (zab s_check_place) f cdv A outer s H E).nox (zam s_check_place) zgr:=by
 have nd:=sc_check_place.nd
 exact (zah (zbo (ziz (fb_leLt zai (fe_v 0) (fe_v 1))) (zah zhu) zap))
theorem zjx (T:TX K mg base):Cal P w K mg base 1 "check_place" zdb:=(T.f_check_place.cal sc_check_place (fun _ _ _ _ _ _=>ls2 fun _ _=>rfl) (fun f cdv A outer s H E hr=>zmo T  hr))
theorem sc_size:FnScope ["make"] ["make"] (zab s_size):=⟨rfl,rfl,rfl,by decide +kernel,rfl,by decide +kernel,by decide +kernel⟩
theorem d_size (T:TX K mg base) (hr:Room 0 (A.deeper (envOfC "size" (zab s_size) s.heap.objs.size f cdv))) :
   FSs (cxOf CX0 P w K mg base ["make"] "size" (zab s_size) f cdv A outer s H E).nox (zam s_size) c_size:=by
 have nd:=sc_size.nd
 exact (zac (zbo (zjz (fe_v 0) zcl) (zah (zal zai)) zap) (zah (zal (zar (fe_v 0) (zav T.i_SIZE)))))
theorem kk_size (T:TX K mg base):Cal P w K mg base 1 "size" zbp:=(T.f_size.cal sc_size (fun _ _ _ _ _ _=>ls1 fun _=>rfl) (fun f cdv A outer s H E hr=>d_size T  hr))
theorem sc_seen:FnScope ["make", "turned"] ["make", "turned"] (zab s_seen):=⟨rfl,rfl,rfl,by decide +kernel,rfl,by decide +kernel,by decide +kernel⟩
theorem d_seen (T:TX K mg base) (hr:Room 0 (A.deeper (envOfC "seen" (zab s_seen) s.heap.objs.size f cdv))) :
   FSs (cxOf CX0 P w K mg base ["make", "turned"] "seen" (zab s_seen) f cdv A outer s H E).nox (zam s_seen) c_seen:=by
 have nd:=sc_seen.nd
 exact (zac (zbo (zfb hr (zar (fe_v 0) (zav T.i_ABOUT)) (fe_v 1)) (zah (zal (zdc (zaa (zar (fe_v 0) (zav T.i_LEFT)) (zaa (zar (fe_v 0) (zav T.i_THING)) (zaa (zar (fe_v 0) (zav T.i_RIGHT)) (zaa zmh zad))))))) zap) (zah (zal (zdc (zaa (zar (fe_v 0) (zav T.i_RIGHT)) (zaa (zar (fe_v 0) (zav T.i_THING)) (zaa (zar (fe_v 0) (zav T.i_LEFT)) (zaa zmh zad))))))))
theorem kk_seen (T:TX K mg base):Cal P w K mg base 1 "seen" zey:=(T.f_seen.cal sc_seen (fun _ _ _ _ _ _=>ls2 fun _ _=>rfl) (fun f cdv A outer s H E hr=>d_seen T  hr))
theorem sc_thing_at:FnScope ["make", "turned", "place", "row", "middle"] ["make", "turned", "place"] (zab s_thing_at):=⟨rfl,rfl,rfl,by decide +kernel,rfl,by decide +kernel,by decide +kernel⟩
theorem zto (T:TX K mg base) (C_seen:Cal P w K mg base 1 "seen" zey) (C_size:Cal P w K mg base 1 "size" zbp) {self:G}{n:Nat} (hself:Cal P w K mg base (2 + n) "thing_at" self) (hr0:Room (2 + n) (A.deeper (envOfC "thing_at" (zab s_thing_at) s.heap.objs.size f cdv))) :
   FSs (cxOf CX0 P w K mg base ["make", "turned", "place", "row", "middle"] "thing_at" (zab s_thing_at) f cdv A outer s H E).nox (zam s_thing_at) (zkt self):=by
 have nd:=sc_thing_at.nd
 have hr:=hr0.mono (Nat.le_add_right 2 n)
 exact (zac (zas 3 (zae C_seen (hr.mono (by decide)) (zaa (fe_v 0) (zaa (fe_v 1) zad))) nd) (zac (zas 4 (zae C_size (hr.mono (by decide)) (zaa (zar (fe_v 3) (zav T.i_AHEAD)) zad)) nd) (zac (zbo (fb_lt (fe_v 2) (fe_v 4)) (zah (zal (zae hself hr0 (zaa (zar (fe_v 3) (zav T.i_AHEAD)) (zaa (zar (fe_v 3) (zav T.i_TURNED)) (zaa (fe_v 2) zad)))))) zap) (zac (zbo (ztl (fe_v 2) (fe_v 4)) (zah (zal (zae hself hr0 (zaa (zar (fe_v 3) (zav T.i_BEHIND)) (zaa (zar (fe_v 3) (zav T.i_TURNED)) (zaa (zen (zen (fe_v 2) (fe_v 4)) zai) zad)))))) zap) (zah (zal (zar (fe_v 3) (zav T.i_MIDDLE))))))))
theorem zil (T:TX K mg base) (C_seen:Cal P w K mg base 1 "seen" zey) (C_size:Cal P w K mg base 1 "size" zbp):∀n:Nat,Cal P w K mg base (2 + n) "thing_at" (zcc n)
 | 0=>T.f_thing_at.none0 (ps:=["make", "turned", "place"]) (fun _ _ _ _ _ _=>ls3 fun _ _ _=>rfl)
 | n + 1=>T.f_thing_at.cal sc_thing_at (fun _ _ _ _ _ _=>ls3 fun _ _ _=>rfl) (fun f cdv A outer s H E hr=>zto T C_seen C_size (zil T C_seen C_size n) hr)
theorem sc_at:FnScope ["make", "place"] ["make", "place"] (zab s_at):=⟨rfl,rfl,rfl,by decide +kernel,rfl,by decide +kernel,by decide +kernel⟩
theorem d_at (T:TX K mg base) (C_check_place:Cal P w K mg base 1 "check_place" zdb) (C_size:Cal P w K mg base 1 "size" zbp) (C_thing_at:Cal P w K mg base (2 + 40) "thing_at" (zcc 40)) (hr:Room 42 (A.deeper (envOfC "at" (zab s_at) s.heap.objs.size f cdv))) :
   FSs (cxOf CX0 P w K mg base ["make", "place"] "at" (zab s_at) f cdv A outer s H E).nox (zam s_at) c_at:=by
 have nd:=sc_at.nd
 exact (zac (zga (zae C_check_place (hr.mono (by decide)) (zaa (fe_v 1) (zaa (zae C_size (hr.mono (by decide)) (zaa (fe_v 0) zad)) zad)))) (zah (zal (zae C_thing_at (hr.mono (by decide)) (zaa (fe_v 0) (zaa zmh (zaa (fe_v 1) zad)))))))
theorem kk_at (T:TX K mg base) (C_check_place:Cal P w K mg base 1 "check_place" zdb) (C_size:Cal P w K mg base 1 "size" zbp) (C_thing_at:Cal P w K mg base (2 + 40) "thing_at" (zcc 40)):Cal P w K mg base 43 "at" g_at:=(T.f_at.cal sc_at (fun _ _ _ _ _ _=>ls2 fun _ _=>rfl) (fun f cdv A outer s H E hr=>d_at T C_check_place C_size C_thing_at hr))
theorem sc_is_alike_at:FnScope ["make", "place", "thing", "before"] ["make", "place", "thing", "before"] (zab s_is_alike_at):=⟨rfl,rfl,rfl,by decide +kernel,rfl,by decide +kernel,by decide +kernel⟩
theorem zmn (T:TX K mg base) (C_at:Cal P w K mg base 43 "at" g_at) (C_size:Cal P w K mg base 1 "size" zbp) (hft:∀x g,ft x=some g→Cal P w K mg base 1 x g) (hlt:∀t g,lamt t=some g→LCal P w K mg base 1 t g) (hct:∀t g,clot t=some g→CCal P w K mg base 2 t g) (hr:Room 43 (A.deeper (envOfC "is_alike_at" (zab s_is_alike_at) s.heap.objs.size f cdv))) :
   FSs (cxOf CX0 P w K mg base ["make", "place", "thing", "before"] "is_alike_at" (zab s_is_alike_at) f cdv A outer s H E).nox (zam s_is_alike_at) zgq:=by
 have nd:=sc_is_alike_at.nd
 exact (zah (zal (fe_and (fe_lt (fe_v 1) (zae C_size (hr.mono (by decide)) (zaa (fe_v 0) zad))) (fe_one (fe_not (zrq (fun x g e=>(hft x g e).mono (by decide)) (fun t g e=>(hlt t g e).mono (by decide)) hct (hr.mono (by decide)) (fe_v 3) (zaa (fe_v 2) (zaa (zae C_at (hr.mono (by decide)) (zaa (fe_v 0) (zaa (fe_v 1) zad))) zad))))))))
theorem zjw (T:TX K mg base) (C_at:Cal P w K mg base 43 "at" g_at) (C_size:Cal P w K mg base 1 "size" zbp) (hft:∀x g,ft x=some g→Cal P w K mg base 1 x g) (hlt:∀t g,lamt t=some g→LCal P w K mg base 1 t g) (hct:∀t g,clot t=some g→CCal P w K mg base 2 t g):Cal P w K mg base 44 "is_alike_at" zda:=(T.f_is_alike_at.cal sc_is_alike_at (fun _ _ _ _ _ _=>ls4 fun _ _ _ _=>rfl) (fun f cdv A outer s H E hr=>zmn T C_at C_size hft hlt hct hr))
theorem sc_count_before:FnScope ["make", "turned", "thing", "before", "row"] ["make", "turned", "thing", "before"] (zab s_count_before):=⟨rfl,rfl,rfl,by decide +kernel,rfl,by decide +kernel,by decide +kernel⟩
theorem zkc (T:TX K mg base) (C_seen:Cal P w K mg base 1 "seen" zey) (C_size:Cal P w K mg base 1 "size" zbp) (hft:∀x g,ft x=some g→Cal P w K mg base 1 x g) (hlt:∀t g,lamt t=some g→LCal P w K mg base 1 t g) (hct:∀t g,clot t=some g→CCal P w K mg base 2 t g) {self:G}{n:Nat} (hself:Cal P w K mg base (3 + n) "count_before" self) (hr0:Room (3 + n) (A.deeper (envOfC "count_before" (zab s_count_before) s.heap.objs.size f cdv))) :
   FSs (cxOf CX0 P w K mg base ["make", "turned", "thing", "before", "row"] "count_before" (zab s_count_before) f cdv A outer s H E).nox (zam s_count_before) (zfw self):=by
 have nd:=sc_count_before.nd
 have hr:=hr0.mono (Nat.le_add_right 3 n)
 exact (zac (zbo (zjz (fe_v 0) zcl) (zah (zal zai)) zap) (zac (zas 4 (zae C_seen (hr.mono (by decide)) (zaa (fe_v 0) (zaa (fe_v 1) zad))) nd) (zac (zbo (zfu (zrq (fun x g e=>(hft x g e).mono (by decide)) (fun t g e=>(hlt t g e).mono (by decide)) hct (hr.mono (by decide)) (fe_v 3) (zaa (zar (fe_v 4) (zav T.i_MIDDLE)) (zaa (fe_v 2) zad)))) (zah (zal (zbt (zbt (zae C_size (hr.mono (by decide)) (zaa (zar (fe_v 4) (zav T.i_AHEAD)) zad)) zai) (zae hself hr0 (zaa (zar (fe_v 4) (zav T.i_BEHIND)) (zaa (zar (fe_v 4) (zav T.i_TURNED)) (zaa (fe_v 2) (zaa (fe_v 3) zad)))))))) zap) (zah (zal (zae hself hr0 (zaa (zar (fe_v 4) (zav T.i_AHEAD)) (zaa (zar (fe_v 4) (zav T.i_TURNED)) (zaa (fe_v 2) (zaa (fe_v 3) zad))))))))))
theorem zew (T:TX K mg base) (C_seen:Cal P w K mg base 1 "seen" zey) (C_size:Cal P w K mg base 1 "size" zbp) (hft:∀x g,ft x=some g→Cal P w K mg base 1 x g) (hlt:∀t g,lamt t=some g→LCal P w K mg base 1 t g) (hct:∀t g,clot t=some g→CCal P w K mg base 2 t g):∀n:Nat,Cal P w K mg base (3 + n) "count_before" (zce n)
 | 0=>T.f_count_before.none0 (ps:=["make", "turned", "thing", "before"]) (fun _ _ _ _ _ _=>ls4 fun _ _ _ _=>rfl)
 | n + 1=>T.f_count_before.cal sc_count_before (fun _ _ _ _ _ _=>ls4 fun _ _ _ _=>rfl) (fun f cdv A outer s H E hr=>zkc T C_seen C_size hft hlt hct (zew T C_seen C_size hft hlt hct n) hr)
theorem sc_place_of:FnScope ["make", "thing", "before"] ["make", "thing", "before"] (zab s_place_of):=⟨rfl,rfl,rfl,by decide +kernel,rfl,by decide +kernel,by decide +kernel⟩
theorem ztp (T:TX K mg base) (C_count_before:Cal P w K mg base (3 + 40) "count_before" (zce 40)) (hr:Room 43 (A.deeper (envOfC "place_of" (zab s_place_of) s.heap.objs.size f cdv))) :
   FSs (cxOf CX0 P w K mg base ["make", "thing", "before"] "place_of" (zab s_place_of) f cdv A outer s H E).nox (zam s_place_of) zku:=by
 have nd:=sc_place_of.nd
 exact (zah (zal (zae C_count_before (hr.mono (by decide)) (zaa (fe_v 0) (zaa zmh (zaa (fe_v 1) (zaa (fe_v 2) zad)))))))
theorem zph (T:TX K mg base) (C_count_before:Cal P w K mg base (3 + 40) "count_before" (zce 40)):Cal P w K mg base 44 "place_of" zcv:=(T.f_place_of.cal sc_place_of (fun _ _ _ _ _ _=>ls3 fun _ _ _=>rfl) (fun f cdv A outer s H E hr=>ztp T C_count_before hr))
theorem sc_has:FnScope ["make", "thing", "before"] ["make", "thing", "before"] (zab s_has):=⟨rfl,rfl,rfl,by decide +kernel,rfl,by decide +kernel,by decide +kernel⟩
theorem d_has (T:TX K mg base) (C_is_alike_at:Cal P w K mg base 44 "is_alike_at" zda) (C_place_of:Cal P w K mg base 44 "place_of" zcv) (hr:Room 44 (A.deeper (envOfC "has" (zab s_has) s.heap.objs.size f cdv))) :
   FSs (cxOf CX0 P w K mg base ["make", "thing", "before"] "has" (zab s_has) f cdv A outer s H E).nox (zam s_has) c_has:=by
 have nd:=sc_has.nd
 exact (zah (zal (zae C_is_alike_at (hr.mono (by decide)) (zaa (fe_v 0) (zaa (zae C_place_of (hr.mono (by decide)) (zaa (fe_v 0) (zaa (fe_v 1) (zaa (fe_v 2) zad)))) (zaa (fe_v 1) (zaa (fe_v 2) zad)))))))
theorem kk_has (T:TX K mg base) (C_is_alike_at:Cal P w K mg base 44 "is_alike_at" zda) (C_place_of:Cal P w K mg base 44 "place_of" zcv):Cal P w K mg base 45 "has" zwp:=(T.f_has.cal sc_has (fun _ _ _ _ _ _=>ls3 fun _ _ _=>rfl) (fun f cdv A outer s H E hr=>d_has T C_is_alike_at C_place_of hr))
theorem sc__law_asked:FnScope ["_law_make", "_law_things", "_law_thing_here", "_law_kind", "_law_before", "_law_due", "_law_place", "_law_there"] ["_law_make", "_law_things", "_law_thing_here", "_law_kind"] (zab s__law_asked):=⟨rfl,rfl,rfl,by decide +kernel,rfl,by decide +kernel,by decide +kernel⟩
theorem zof (T:TX K mg base) (C__law_key:Cal P w K mg base 1 "_law_key" zbb) (C_has:Cal P w K mg base 45 "has" zwp) (C_place_of:Cal P w K mg base 44 "place_of" zcv) {f:Addr}{cdv:Value} (hco:zgu K mg "_law_asked" cdv) {A:Around}{outer:List Env}{s:Shared}{H:Hp}{E:XK} (hr:Room 45 (A.deeper (envOfC "_law_asked" (zab s__law_asked) s.heap.objs.size f cdv))) :
   ∃cl,FSs (cxOf CX0 P w K mg base ["_law_make", "_law_things", "_law_thing_here", "_law_kind", "_law_before", "_law_due", "_law_place", "_law_there"] "_law_asked" (zab s__law_asked) f cdv A outer s H E).nox (zam s__law_asked) (zhm cl):=by
 have nd:=sc__law_asked.nd
 apply Exists.intro
 exact (zac (zas 4 (fe_lamG 0 hco T.blt rfl) nd) (zac (zas 5 (zgl T.b_len (zaa (by exact fe_capK fun kv hi=>zxb (t:=lt_1) (zgn (x:="_law_one") (N':=["_law_before", "_law_thing_here"]) (fr:=[4,2]) (by decide +kernel) rfl rfl rfl rfl rfl) (fe_v 1) (CapsOk.mk rfl rfl (List.forall_mem_cons.mpr ⟨rfl,(fun _ h=>nomatch h)⟩) (by decide +kernel) rfl (List.forall_mem_cons.mpr ⟨rfl,(fun _ h=>nomatch h)⟩) (fun _ _=>rfl)) hi (fun _ _ _ _ fc=>.one (zfu (fe_callB (kl_1 T C__law_key) fc (hr.mono (by decide)) (fe_v 1) (zaa (fe_v 0) (zaa (fe_v 2) zad))))) (fun _ _ _ _=>(fe_v 0))) zad)) nd) (zac (zas 6 (by exact (zrr C_place_of (CapsOk.mk rfl rfl (List.forall_mem_cons.mpr ⟨rfl,(fun _ h=>nomatch h)⟩) (by decide +kernel) rfl (List.forall_mem_cons.mpr ⟨rfl,(fun _ h=>nomatch h)⟩) (fun _ _=>rfl)) (hr.mono (by decide)) (zhx (fe_v 0) (zhx (fe_v 2) (zrt (fe_v 4)))))) nd) (zac (zas 7 (by exact (zrr C_has (CapsOk.mk rfl rfl (List.forall_mem_cons.mpr ⟨rfl,(fun _ h=>nomatch h)⟩) (by decide +kernel) rfl (List.forall_mem_cons.mpr ⟨rfl,(fun _ h=>nomatch h)⟩) (fun _ _=>rfl)) (hr.mono (by decide)) (zhx (fe_v 0) (zhx (fe_v 2) (zrt (fe_v 4)))))) nd) (zac (zbo (fb_w (fw_or (ziz (zfu (zxa T.b_isinstance (zaa (fe_v 6) (zaa (zxc "int" T.b_int F.boot_int) zad))))) (fw_or (zfu (zxa T.b_isinstance (zaa (fe_v 6) (zaa (zxc "bool" T.b_bool F.boot_bool) zad)))) (fw_or (fb_ne hr (fe_v 6) (fe_v 5)) (fw_or1 (ziz (zfu (zxa T.b_isinstance (zaa (fe_v 7) (zaa (zxc "bool" T.b_bool F.boot_bool) zad)))))))))) (zah (zal zmh)) zap) (zah (zal (fe_eq hr (fe_v 7) (fe_ne hr (fe_compL (zgn (x:="_law_one") (N':=["_law_kind", "_law_thing_here"]) (fr:=[3,2]) (by decide +kernel) rfl rfl rfl rfl rfl) (fe_v 1) (fun _ _ _ _=>.one (zfb hr (zae C__law_key (hr.mono (by decide)) (zaa (fe_v 1) (zaa (fe_v 0) zad))) (zae C__law_key (hr.mono (by decide)) (zaa (fe_v 1) (zaa (fe_v 2) zad))))) (fun _ _ _ _=>(fe_v 0))) (fe_lst zad))))))))))
theorem zlz (T:TX K mg base) (C__law_key:Cal P w K mg base 1 "_law_key" zbb) (C_has:Cal P w K mg base 45 "has" zwp) (C_place_of:Cal P w K mg base 44 "place_of" zcv):Cal P w K mg base 46 "_law_asked" zdj:=(T.f__law_asked.calA sc__law_asked (fun _ _ _ _ _ _=>ls4 fun _ _ _ _=>rfl) (fun f cdv co A outer s H E hr=>zof T C__law_key C_has C_place_of co hr))
theorem sc__law_cell:FnScope ["_law_script", "_law_k", "_law_cell_here"] ["_law_script", "_law_k"] (zab s__law_cell):=⟨rfl,rfl,rfl,by decide +kernel,rfl,by decide +kernel,by decide +kernel⟩
theorem zpw (T:TX K mg base) (hr:Room 0 (A.deeper (envOfC "_law_cell" (zab s__law_cell) s.heap.objs.size f cdv))) :
   FSs (cxOf CX0 P w K mg base ["_law_script", "_law_k", "_law_cell_here"] "_law_cell" (zab s__law_cell) f cdv A outer s H E).nox (zam s__law_cell) zjk:=by
 have nd:=sc__law_cell.nd
 exact (zac (zas 2 (zbt (zhg (zhg (fe_v 1) (fe_v 1)) zai) zai) nd) (zac (zbo (ztl (zgl T.b_len (zaa (fe_v 0) zad)) zai) (zah (zas 2 (zbt (zdk (zar (fe_v 0) (zdk (fe_v 1) (zgl T.b_len (zaa (fe_v 0) zad)))) (zrp zai zai)) (zhg (znv (fe_v 1) (zgl T.b_len (zaa (fe_v 0) zad))) zai)) nd)) zap) (zah (zal (zdk (zhg (zdk (zbt (zhg (fe_v 2) zai) (zhg (fe_v 1) zai)) zai) (zbt (zdk (fe_v 2) zai) zai)) zai)))))
theorem znp (T:TX K mg base):Cal P w K mg base 1 "_law_cell" zaw:=(T.f__law_cell.cal sc__law_cell (fun _ _ _ _ _ _=>ls2 fun _ _=>rfl) (fun f cdv A outer s H E hr=>zpw T  hr))
theorem sc_Wood_numbered:FnScope ["self", "rest", "number"] ["self", "rest"] (zab s_Wood_numbered):=⟨rfl,rfl,rfl,by decide +kernel,rfl,by decide +kernel,by decide +kernel⟩
theorem zjc (T:TX K mg base) (hr:Room 0 (A.deeper (envOfC "Wood.numbered" (zab s_Wood_numbered) s.heap.objs.size f cdv))) :
   FSs (cxOf CX0 P w K mg base ["self", "rest", "number"] "Wood.numbered" (zab s_Wood_numbered) f cdv A outer s H E).nox (zam s_Wood_numbered) zdv:=by
 have nd:=sc_Wood_numbered.nd
 exact (zac (zas 2 (fe_fld T.w_Wood_nodes_made (fe_v 0)) nd) (zac (zws T.w_Wood_nodes_made (fe_v 0) (zbt (fe_v 2) zai)) (zah (zal (zbt (zdc (zaa (fe_v 2) zad)) (fe_v 1))))))
theorem zhp (T:TX K mg base):Mth P w K mg base 1 "Wood" "numbered" zbf:=T.f_Wood_numbered.mth sc_Wood_numbered (fun _ _ _ _ _ _=>ls2 fun _ _=>rfl) (fun f cdv A outer s H E hr=>zjc T  hr)
theorem sc_back:FnScope ["make"] ["make"] (zab s_back):=⟨rfl,rfl,rfl,by decide +kernel,rfl,by decide +kernel,by decide +kernel⟩
theorem d_back (T:TX K mg base) (hr:Room 0 (A.deeper (envOfC "back" (zab s_back) s.heap.objs.size f cdv))) :
   FSs (cxOf CX0 P w K mg base ["make"] "back" (zab s_back) f cdv A outer s H E).nox (zam s_back) c_back:=by
 have nd:=sc_back.nd
 exact (zac (zbo (zjz (fe_v 0) zcl) (zah (zal zcl)) zap) (zah (zal (zar (fe_v 0) (zav T.i_BACK)))))
theorem kk_back (T:TX K mg base):Cal P w K mg base 1 "back" zez:=(T.f_back.cal sc_back (fun _ _ _ _ _ _=>ls1 fun _=>rfl) (fun f cdv A outer s H E hr=>d_back T  hr))
theorem sc_height:FnScope ["make"] ["make"] (zab s_height):=⟨rfl,rfl,rfl,by decide +kernel,rfl,by decide +kernel,by decide +kernel⟩
theorem d_height (T:TX K mg base) (hr:Room 0 (A.deeper (envOfC "height" (zab s_height) s.heap.objs.size f cdv))) :
   FSs (cxOf CX0 P w K mg base ["make"] "height" (zab s_height) f cdv A outer s H E).nox (zam s_height) zsh:=by
 have nd:=sc_height.nd
 exact (zac (zbo (zjz (fe_v 0) zcl) (zah (zal zai)) zap) (zah (zal (zar (fe_v 0) (zav T.i_HEIGHT)))))
theorem zwc (T:TX K mg base):Cal P w K mg base 1 "height" zax:=(T.f_height.cal sc_height (fun _ _ _ _ _ _=>ls1 fun _=>rfl) (fun f cdv A outer s H E hr=>d_height T  hr))
theorem sc_total:FnScope ["make"] ["make"] (zab s_total):=⟨rfl,rfl,rfl,by decide +kernel,rfl,by decide +kernel,by decide +kernel⟩
theorem d_total (T:TX K mg base) (hr:Room 0 (A.deeper (envOfC "total" (zab s_total) s.heap.objs.size f cdv))) :
   FSs (cxOf CX0 P w K mg base ["make"] "total" (zab s_total) f cdv A outer s H E).nox (zam s_total) c_total:=by
 have nd:=sc_total.nd
 exact (zac (zbo (zjz (fe_v 0) zcl) (zah (zal zcl)) zap) (zah (zal (zar (fe_v 0) (zav T.i_TOTAL)))))
theorem kk_total (T:TX K mg base):Cal P w K mg base 1 "total" zdf:=(T.f_total.cal sc_total (fun _ _ _ _ _ _=>ls1 fun _=>rfl) (fun f cdv A outer s H E hr=>d_total T  hr))
theorem sc_Wood_turned:FnScope ["self", "make", "row"] ["self", "make"] (zab s_Wood_turned):=⟨rfl,rfl,rfl,by decide +kernel,rfl,by decide +kernel,by decide +kernel⟩
theorem zmp (T:TX K mg base) (C_Wood_numbered:Mth P w K mg base 1 "Wood" "numbered" zbf) (C_back:Cal P w K mg base 1 "back" zez) (C_height:Cal P w K mg base 1 "height" zax) (C_size:Cal P w K mg base 1 "size" zbp) (C_total:Cal P w K mg base 1 "total" zdf) (hr:Room 1 (A.deeper (envOfC "Wood.turned" (zab s_Wood_turned) s.heap.objs.size f cdv))) :
   FSs (cxOf CX0 P w K mg base ["self", "make", "row"] "Wood.turned" (zab s_Wood_turned) f cdv A outer s H E).nox (zam s_Wood_turned) zgs:=by
 have nd:=sc_Wood_turned.nd
 exact (zac (zbo (zjz (fe_v 1) zcl) (zah (zal zcl)) zap) (zac (zas 2 (zdc (zaa (zar (fe_v 1) (zav T.i_LEFT)) (zaa (zar (fe_v 1) (zav T.i_THING)) (zaa (zar (fe_v 1) (zav T.i_RIGHT)) zad)))) nd) (zah (zal (zbz C_Wood_numbered (hr.mono (by decide)) (fe_v 0) (zaa (zbt (zbt (zdc (zaa (fe_not (zar (fe_v 1) (zav T.i_ABOUT))) zad)) (fe_v 2)) (zdc (zaa (zae C_size (hr.mono (by decide)) (zaa (fe_v 1) zad)) (zaa (zae C_height (hr.mono (by decide)) (zaa (fe_v 1) zad)) (zaa (zae C_back (hr.mono (by decide)) (zaa (fe_v 1) zad)) (zaa (zae C_total (hr.mono (by decide)) (zaa (fe_v 1) zad)) zad)))))) zad))))))
theorem zjy (T:TX K mg base) (C_Wood_numbered:Mth P w K mg base 1 "Wood" "numbered" zbf) (C_back:Cal P w K mg base 1 "back" zez) (C_height:Cal P w K mg base 1 "height" zax) (C_size:Cal P w K mg base 1 "size" zbp) (C_total:Cal P w K mg base 1 "total" zdf):Mth P w K mg base 2 "Wood" "turned" zat:=T.f_Wood_turned.mth sc_Wood_turned (fun _ _ _ _ _ _=>ls2 fun _ _=>rfl) (fun f cdv A outer s H E hr=>zmp T C_Wood_numbered C_back C_height C_size C_total hr)
theorem sc_check_room:FnScope ["things"] ["things"] (zab s_check_room):=⟨rfl,rfl,rfl,by decide +kernel,rfl,by decide +kernel,by decide +kernel⟩
theorem zod (T:TX K mg base) (hr:Room 0 (A.deeper (envOfC "check_room" (zab s_check_room) s.heap.objs.size f cdv))) :
   FSs (cxOf CX0 P w K mg base ["things"] "check_room" (zab s_check_room) f cdv A outer s H E).nox (zam s_check_room) zhk:=by
 have nd:=sc_check_room.nd
 exact (zah (zbo (ztl (fe_v 0) (zav T.i_MOST_THINGS)) (zah zhu) zap))
theorem zlx (T:TX K mg base):Cal P w K mg base 1 "check_room" zbx:=(T.f_check_room.cal sc_check_room (fun _ _ _ _ _ _=>ls1 fun _=>rfl) (fun f cdv A outer s H E hr=>zod T  hr))
theorem sc_height_above:FnScope ["left", "right"] ["left", "right"] (zab s_height_above):=⟨rfl,rfl,rfl,by decide +kernel,rfl,by decide +kernel,by decide +kernel⟩
theorem zkb (T:TX K mg base) (C_height:Cal P w K mg base 1 "height" zax) (hr:Room 1 (A.deeper (envOfC "height_above" (zab s_height_above) s.heap.objs.size f cdv))) :
   FSs (cxOf CX0 P w K mg base ["left", "right"] "height_above" (zab s_height_above) f cdv A outer s H E).nox (zam s_height_above) zec:=by
 have nd:=sc_height_above.nd
 exact (zah (zal (zbt zai (fe_max T.b_max (zaa (zae C_height (hr.mono (by decide)) (zaa (fe_v 0) zad)) (zaa (zae C_height (hr.mono (by decide)) (zaa (fe_v 1) zad)) zad))))))
theorem zin (T:TX K mg base) (C_height:Cal P w K mg base 1 "height" zax):Cal P w K mg base 2 "height_above" zcd:=(T.f_height_above.cal sc_height_above (fun _ _ _ _ _ _=>ls2 fun _ _=>rfl) (fun f cdv A outer s H E hr=>zkb T C_height hr))
theorem sc_in_balance:FnScope ["left", "right"] ["left", "right"] (zab s_in_balance):=⟨rfl,rfl,rfl,by decide +kernel,rfl,by decide +kernel,by decide +kernel⟩
theorem zoc (T:TX K mg base) (C_height:Cal P w K mg base 1 "height" zax) (hr:Room 1 (A.deeper (envOfC "in_balance" (zab s_in_balance) s.heap.objs.size f cdv))) :
   FSs (cxOf CX0 P w K mg base ["left", "right"] "in_balance" (zab s_in_balance) f cdv A outer s H E).nox (zam s_in_balance) zfg:=by
 have nd:=sc_in_balance.nd
 exact (zah (zal (fe_le (fe_abs T.b_abs (zaa (zen (zae C_height (hr.mono (by decide)) (zaa (fe_v 0) zad)) (zae C_height (hr.mono (by decide)) (zaa (fe_v 1) zad))) zad)) zai)))
theorem zlw (T:TX K mg base) (C_height:Cal P w K mg base 1 "height" zax):Cal P w K mg base 2 "in_balance" zbh:=(T.f_in_balance.cal sc_in_balance (fun _ _ _ _ _ _=>ls2 fun _ _=>rfl) (fun f cdv A outer s H E hr=>zoc T C_height hr))
theorem sc_size_above:FnScope ["left", "right"] ["left", "right"] (zab s_size_above):=⟨rfl,rfl,rfl,by decide +kernel,rfl,by decide +kernel,by decide +kernel⟩
theorem zoa (T:TX K mg base) (C_size:Cal P w K mg base 1 "size" zbp) (hr:Room 1 (A.deeper (envOfC "size_above" (zab s_size_above) s.heap.objs.size f cdv))) :
   FSs (cxOf CX0 P w K mg base ["left", "right"] "size_above" (zab s_size_above) f cdv A outer s H E).nox (zam s_size_above) zfe:=by
 have nd:=sc_size_above.nd
 exact (zah (zal (zbt (zbt (zae C_size (hr.mono (by decide)) (zaa (fe_v 0) zad)) zai) (zae C_size (hr.mono (by decide)) (zaa (fe_v 1) zad)))))
theorem zlu (T:TX K mg base) (C_size:Cal P w K mg base 1 "size" zbp):Cal P w K mg base 2 "size_above" zcu:=(T.f_size_above.cal sc_size_above (fun _ _ _ _ _ _=>ls2 fun _ _=>rfl) (fun f cdv A outer s H E hr=>zoa T C_size hr))
theorem sc_backward_sum:FnScope ["add", "left", "thing", "right", "result"] ["add", "left", "thing", "right"] (zab s_backward_sum):=⟨rfl,rfl,rfl,by decide +kernel,rfl,by decide +kernel,by decide +kernel⟩
theorem zkd (T:TX K mg base) (C_back:Cal P w K mg base 1 "back" zez) (hft:∀x g,ft x=some g→Cal P w K mg base 1 x g) (hlt:∀t g,lamt t=some g→LCal P w K mg base 1 t g) (hr:Room 1 (A.deeper (envOfC "backward_sum" (zab s_backward_sum) s.heap.objs.size f cdv))) :
   FSs (cxOf CX0 P w K mg base ["add", "left", "thing", "right", "result"] "backward_sum" (zab s_backward_sum) f cdv A outer s H E).nox (zam s_backward_sum) zfx:=by
 have nd:=sc_backward_sum.nd
 exact (zac (zas 4 (fe_v 2) nd) (zac (zbo (zhw (fe_v 3) zcl) (zah (zas 4 (zfq hft hlt (hr.mono (by decide)) (fe_v 0) (zaa (zae C_back (hr.mono (by decide)) (zaa (fe_v 3) zad)) (zaa (fe_v 4) zad))) nd)) zap) (zac (zbo (zhw (fe_v 1) zcl) (zah (zas 4 (zfq hft hlt (hr.mono (by decide)) (fe_v 0) (zaa (fe_v 4) (zaa (zae C_back (hr.mono (by decide)) (zaa (fe_v 1) zad)) zad))) nd)) zap) (zah (zal (fe_v 4))))))
theorem zio (T:TX K mg base) (C_back:Cal P w K mg base 1 "back" zez) (hft:∀x g,ft x=some g→Cal P w K mg base 1 x g) (hlt:∀t g,lamt t=some g→LCal P w K mg base 1 t g):Cal P w K mg base 2 "backward_sum" zco:=(T.f_backward_sum.cal sc_backward_sum (fun _ _ _ _ _ _=>ls4 fun _ _ _ _=>rfl) (fun f cdv A outer s H E hr=>zkd T C_back hft hlt hr))
theorem sc_onward_sum:FnScope ["add", "left", "thing", "right", "result"] ["add", "left", "thing", "right"] (zab s_onward_sum):=⟨rfl,rfl,rfl,by decide +kernel,rfl,by decide +kernel,by decide +kernel⟩
theorem zob (T:TX K mg base) (C_total:Cal P w K mg base 1 "total" zdf) (hft:∀x g,ft x=some g→Cal P w K mg base 1 x g) (hlt:∀t g,lamt t=some g→LCal P w K mg base 1 t g) (hr:Room 1 (A.deeper (envOfC "onward_sum" (zab s_onward_sum) s.heap.objs.size f cdv))) :
   FSs (cxOf CX0 P w K mg base ["add", "left", "thing", "right", "result"] "onward_sum" (zab s_onward_sum) f cdv A outer s H E).nox (zam s_onward_sum) zhj:=by
 have nd:=sc_onward_sum.nd
 exact (zac (zas 4 (fe_v 2) nd) (zac (zbo (zhw (fe_v 1) zcl) (zah (zas 4 (zfq hft hlt (hr.mono (by decide)) (fe_v 0) (zaa (zae C_total (hr.mono (by decide)) (zaa (fe_v 1) zad)) (zaa (fe_v 4) zad))) nd)) zap) (zac (zbo (zhw (fe_v 3) zcl) (zah (zas 4 (zfq hft hlt (hr.mono (by decide)) (fe_v 0) (zaa (fe_v 4) (zaa (zae C_total (hr.mono (by decide)) (zaa (fe_v 3) zad)) zad))) nd)) zap) (zah (zal (fe_v 4))))))
theorem zlv (T:TX K mg base) (C_total:Cal P w K mg base 1 "total" zdf) (hft:∀x g,ft x=some g→Cal P w K mg base 1 x g) (hlt:∀t g,lamt t=some g→LCal P w K mg base 1 t g):Cal P w K mg base 2 "onward_sum" zdi:=(T.f_onward_sum.cal sc_onward_sum (fun _ _ _ _ _ _=>ls4 fun _ _ _ _=>rfl) (fun f cdv A outer s H E hr=>zob T C_total hft hlt hr))
theorem sc_sums_above:FnScope ["add", "left", "thing", "right"] ["add", "left", "thing", "right"] (zab s_sums_above):=⟨rfl,rfl,rfl,by decide +kernel,rfl,by decide +kernel,by decide +kernel⟩
theorem znz (T:TX K mg base) (C_backward_sum:Cal P w K mg base 2 "backward_sum" zco) (C_onward_sum:Cal P w K mg base 2 "onward_sum" zdi) (hr:Room 2 (A.deeper (envOfC "sums_above" (zab s_sums_above) s.heap.objs.size f cdv))) :
   FSs (cxOf CX0 P w K mg base ["add", "left", "thing", "right"] "sums_above" (zab s_sums_above) f cdv A outer s H E).nox (zam s_sums_above) zdz:=by
 have nd:=sc_sums_above.nd
 exact (zac (zbo (zjz (fe_v 0) zcl) (zah (zal (zdc (zaa zcl (zaa zcl zad))))) zap) (zah (zal (zdc (zaa (zae C_onward_sum (hr.mono (by decide)) (zaa (fe_v 0) (zaa (fe_v 1) (zaa (fe_v 2) (zaa (fe_v 3) zad))))) (zaa (zae C_backward_sum (hr.mono (by decide)) (zaa (fe_v 0) (zaa (fe_v 1) (zaa (fe_v 2) (zaa (fe_v 3) zad))))) zad))))))
theorem zlt (T:TX K mg base) (C_backward_sum:Cal P w K mg base 2 "backward_sum" zco) (C_onward_sum:Cal P w K mg base 2 "onward_sum" zdi):Cal P w K mg base 3 "sums_above" zci:=(T.f_sums_above.cal sc_sums_above (fun _ _ _ _ _ _=>ls4 fun _ _ _ _=>rfl) (fun f cdv A outer s H E hr=>znz T C_backward_sum C_onward_sum hr))
theorem sc_Wood_node:FnScope ["self", "left", "thing", "right", "things", "measures", "sums"] ["self", "left", "thing", "right"] (zab s_Wood_node):=⟨rfl,rfl,rfl,by decide +kernel,rfl,by decide +kernel,by decide +kernel⟩
theorem zpx (T:TX K mg base) (C_Wood_numbered:Mth P w K mg base 1 "Wood" "numbered" zbf) (C_check_room:Cal P w K mg base 1 "check_room" zbx) (C_height_above:Cal P w K mg base 2 "height_above" zcd) (C_in_balance:Cal P w K mg base 2 "in_balance" zbh) (C_size_above:Cal P w K mg base 2 "size_above" zcu) (C_sums_above:Cal P w K mg base 3 "sums_above" zci) (hr:Room 3 (A.deeper (envOfC "Wood.node" (zab s_Wood_node) s.heap.objs.size f cdv))) :
   FSs (cxOf CX0 P w K mg base ["self", "left", "thing", "right", "things", "measures", "sums"] "Wood.node" (zab s_Wood_node) f cdv A outer s H E).nox (zam s_Wood_node) zjl:=by
 have nd:=sc_Wood_node.nd
 exact (zac (zas 4 (zae C_size_above (hr.mono (by decide)) (zaa (fe_v 1) (zaa (fe_v 3) zad))) nd) (zac (zga (zae C_check_room (hr.mono (by decide)) (zaa (fe_v 4) zad))) (zac (zbo (ziz (zfu (zae C_in_balance (hr.mono (by decide)) (zaa (fe_v 1) (zaa (fe_v 3) zad))))) (zah zhu) zap) (zac (zas 5 (zdc (zaa (fe_v 4) (zaa (zae C_height_above (hr.mono (by decide)) (zaa (fe_v 1) (zaa (fe_v 3) zad))) zad))) nd) (zac (zas 6 (zae C_sums_above (hr.mono (by decide)) (zaa (fe_fld T.w_Wood_adding (fe_v 0)) (zaa (fe_v 1) (zaa (fe_v 2) (zaa (fe_v 3) zad))))) nd) (zah (zal (zbz C_Wood_numbered (hr.mono (by decide)) (fe_v 0) (zaa (zbt (zbt (zdc (zaa zmh (zaa (fe_v 1) (zaa (fe_v 2) (zaa (fe_v 3) zad))))) (fe_v 5)) (fe_v 6)) zad)))))))))
theorem znq (T:TX K mg base) (C_Wood_numbered:Mth P w K mg base 1 "Wood" "numbered" zbf) (C_check_room:Cal P w K mg base 1 "check_room" zbx) (C_height_above:Cal P w K mg base 2 "height_above" zcd) (C_in_balance:Cal P w K mg base 2 "in_balance" zbh) (C_size_above:Cal P w K mg base 2 "size_above" zcu) (C_sums_above:Cal P w K mg base 3 "sums_above" zci):Mth P w K mg base 4 "Wood" "node" zan:=T.f_Wood_node.mth sc_Wood_node (fun _ _ _ _ _ _=>ls4 fun _ _ _ _=>rfl) (fun f cdv A outer s H E hr=>zpx T C_Wood_numbered C_check_room C_height_above C_in_balance C_size_above C_sums_above hr)
theorem sc_built:FnScope ["wood", "things", "start", "end", "middle", "left", "right"] ["wood", "things", "start", "end"] (zab s_built):=⟨rfl,rfl,rfl,by decide +kernel,rfl,by decide +kernel,by decide +kernel⟩
theorem d_built (T:TX K mg base) (C_Wood_node:Mth P w K mg base 4 "Wood" "node" zan) {self:G}{n:Nat} (hself:Cal P w K mg base (5 + n) "built" self) (hr0:Room (5 + n) (A.deeper (envOfC "built" (zab s_built) s.heap.objs.size f cdv))) :
   FSs (cxOf CX0 P w K mg base ["wood", "things", "start", "end", "middle", "left", "right"] "built" (zab s_built) f cdv A outer s H E).nox (zam s_built) (c_built self):=by
 have nd:=sc_built.nd
 have hr:=hr0.mono (Nat.le_add_right 5 n)
 exact (zac (zbo (zfb hr (fe_v 2) (fe_v 3)) (zah (zal zcl)) zap) (zac (zas 4 (znv (zbt (fe_v 2) (fe_v 3)) zai) nd) (zac (zas 5 (zae hself hr0 (zaa (fe_v 0) (zaa (fe_v 1) (zaa (fe_v 2) (zaa (fe_v 4) zad))))) nd) (zac (zas 6 (zae hself hr0 (zaa (fe_v 0) (zaa (fe_v 1) (zaa (zbt (fe_v 4) zai) (zaa (fe_v 3) zad))))) nd) (zah (zal (zbz C_Wood_node (hr.mono (by decide)) (fe_v 0) (zaa (fe_v 5) (zaa (zar (fe_v 1) (fe_v 4)) (zaa (fe_v 6) zad))))))))))
theorem zrg (T:TX K mg base) (C_Wood_node:Mth P w K mg base 4 "Wood" "node" zan):∀n:Nat,Cal P w K mg base (5 + n) "built" (zhc n)
 | 0=>T.f_built.none0 (ps:=["wood", "things", "start", "end"]) (fun _ _ _ _ _ _=>ls4 fun _ _ _ _=>rfl)
 | n + 1=>T.f_built.cal sc_built (fun _ _ _ _ _ _=>ls4 fun _ _ _ _=>rfl) (fun f cdv A outer s H E hr=>d_built T C_Wood_node (zrg T C_Wood_node n) hr)
theorem sc_make_of:FnScope ["wood", "things"] ["wood", "things"] (zab s_make_of):=⟨rfl,rfl,rfl,by decide +kernel,rfl,by decide +kernel,by decide +kernel⟩
theorem d_make_of (T:TX K mg base) (C_built:Cal P w K mg base (5 + 40) "built" (zhc 40)) (C_check_room:Cal P w K mg base 1 "check_room" zbx) (hr:Room 45 (A.deeper (envOfC "make_of" (zab s_make_of) s.heap.objs.size f cdv))) :
   FSs (cxOf CX0 P w K mg base ["wood", "things"] "make_of" (zab s_make_of) f cdv A outer s H E).nox (zam s_make_of) zok:=by
 have nd:=sc_make_of.nd
 exact (zac (zga (zae C_check_room (hr.mono (by decide)) (zaa (zgl T.b_len (zaa (fe_v 1) zad)) zad))) (zah (zal (zae C_built (hr.mono (by decide)) (zaa (fe_v 0) (zaa (fe_v 1) (zaa zai (zaa (zgl T.b_len (zaa (fe_v 1) zad)) zad))))))))
theorem ztg (T:TX K mg base) (C_built:Cal P w K mg base (5 + 40) "built" (zhc 40)) (C_check_room:Cal P w K mg base 1 "check_room" zbx):Cal P w K mg base 46 "make_of" zdu:=(T.f_make_of.cal sc_make_of (fun _ _ _ _ _ _=>ls2 fun _ _=>rfl) (fun f cdv A outer s H E hr=>d_make_of T C_built C_check_room hr))
theorem sc_check_stretch:FnScope ["make", "start", "end"] ["make", "start", "end"] (zab s_check_stretch):=⟨rfl,rfl,rfl,by decide +kernel,rfl,by decide +kernel,by decide +kernel⟩
theorem zjb (T:TX K mg base) (C_size:Cal P w K mg base 1 "size" zbp) (hr:Room 1 (A.deeper (envOfC "check_stretch" (zab s_check_stretch) s.heap.objs.size f cdv))) :
   FSs (cxOf CX0 P w K mg base ["make", "start", "end"] "check_stretch" (zab s_check_stretch) f cdv A outer s H E).nox (zam s_check_stretch) zfh:=by
 have nd:=sc_check_stretch.nd
 exact (zah (zbo (ziz (fb_leLeLe zai (fe_v 1) (fe_v 2) (zae C_size (hr.mono (by decide)) (zaa (fe_v 0) zad)))) (zah zhu) zap))
theorem zho (T:TX K mg base) (C_size:Cal P w K mg base 1 "size" zbp):Cal P w K mg base 2 "check_stretch" zck:=(T.f_check_stretch.cal sc_check_stretch (fun _ _ _ _ _ _=>ls3 fun _ _ _=>rfl) (fun f cdv A outer s H E hr=>zjb T C_size hr))
theorem sc_parts:FnScope ["wood", "make", "ahead", "behind"] ["wood", "make"] (zab s_parts):=⟨rfl,rfl,rfl,by decide +kernel,rfl,by decide +kernel,by decide +kernel⟩
theorem d_parts (T:TX K mg base) (C_Wood_turned:Mth P w K mg base 2 "Wood" "turned" zat) (hr:Room 2 (A.deeper (envOfC "parts" (zab s_parts) s.heap.objs.size f cdv))) :
   FSs (cxOf CX0 P w K mg base ["wood", "make", "ahead", "behind"] "parts" (zab s_parts) f cdv A outer s H E).nox (zam s_parts) zpy:=by
 have nd:=sc_parts.nd
 exact (zac (zbo (ziz (zfu (zar (fe_v 1) (zav T.i_ABOUT)))) (zah (zal (zdc (zaa (zar (fe_v 1) (zav T.i_LEFT)) (zaa (zar (fe_v 1) (zav T.i_THING)) (zaa (zar (fe_v 1) (zav T.i_RIGHT)) zad)))))) zap) (zac (zas 2 (zbz C_Wood_turned (hr.mono (by decide)) (fe_v 0) (zaa (zar (fe_v 1) (zav T.i_RIGHT)) zad)) nd) (zac (zas 3 (zbz C_Wood_turned (hr.mono (by decide)) (fe_v 0) (zaa (zar (fe_v 1) (zav T.i_LEFT)) zad)) nd) (zah (zal (zdc (zaa (fe_v 2) (zaa (zar (fe_v 1) (zav T.i_THING)) (zaa (fe_v 3) zad)))))))))
theorem kk_parts (T:TX K mg base) (C_Wood_turned:Mth P w K mg base 2 "Wood" "turned" zat):Cal P w K mg base 3 "parts" zbu:=(T.f_parts.cal sc_parts (fun _ _ _ _ _ _=>ls2 fun _ _=>rfl) (fun f cdv A outer s H E hr=>d_parts T C_Wood_turned hr))
theorem sc_lifted_left:FnScope ["wood", "left", "thing", "right", "outer", "inner", "ahead", "behind"] ["wood", "left", "thing", "right"] (zab s_lifted_left):=⟨rfl,rfl,rfl,by decide +kernel,rfl,by decide +kernel,by decide +kernel⟩
theorem zmm (T:TX K mg base) (C_Wood_node:Mth P w K mg base 4 "Wood" "node" zan) (C_height:Cal P w K mg base 1 "height" zax) (C_parts:Cal P w K mg base 3 "parts" zbu) (hr:Room 4 (A.deeper (envOfC "lifted_left" (zab s_lifted_left) s.heap.objs.size f cdv))) :
   FSs (cxOf CX0 P w K mg base ["wood", "left", "thing", "right", "outer", "inner", "ahead", "behind"] "lifted_left" (zab s_lifted_left) f cdv A outer s H E).nox (zam s_lifted_left) zgp:=by
 have nd:=sc_lifted_left.nd
 exact (zac (zas 4 (zae C_parts (hr.mono (by decide)) (zaa (fe_v 0) (zaa (fe_v 1) zad))) nd) (zac (zbo (fb_ge (zae C_height (hr.mono (by decide)) (zaa (zar (fe_v 4) (zav T.i_AHEAD)) zad)) (zae C_height (hr.mono (by decide)) (zaa (zar (fe_v 4) (zav T.i_BEHIND)) zad))) (zah (zal (zbz C_Wood_node (hr.mono (by decide)) (fe_v 0) (zaa (zar (fe_v 4) (zav T.i_AHEAD)) (zaa (zar (fe_v 4) (zav T.i_MIDDLE)) (zaa (zbz C_Wood_node (hr.mono (by decide)) (fe_v 0) (zaa (zar (fe_v 4) (zav T.i_BEHIND)) (zaa (fe_v 2) (zaa (fe_v 3) zad)))) zad)))))) zap) (zac (zas 5 (zae C_parts (hr.mono (by decide)) (zaa (fe_v 0) (zaa (zar (fe_v 4) (zav T.i_BEHIND)) zad))) nd) (zac (zas 6 (zbz C_Wood_node (hr.mono (by decide)) (fe_v 0) (zaa (zar (fe_v 4) (zav T.i_AHEAD)) (zaa (zar (fe_v 4) (zav T.i_MIDDLE)) (zaa (zar (fe_v 5) (zav T.i_AHEAD)) zad)))) nd) (zac (zas 7 (zbz C_Wood_node (hr.mono (by decide)) (fe_v 0) (zaa (zar (fe_v 5) (zav T.i_BEHIND)) (zaa (fe_v 2) (zaa (fe_v 3) zad)))) nd) (zah (zal (zbz C_Wood_node (hr.mono (by decide)) (fe_v 0) (zaa (fe_v 6) (zaa (zar (fe_v 5) (zav T.i_MIDDLE)) (zaa (fe_v 7) zad)))))))))))
theorem zjv (T:TX K mg base) (C_Wood_node:Mth P w K mg base 4 "Wood" "node" zan) (C_height:Cal P w K mg base 1 "height" zax) (C_parts:Cal P w K mg base 3 "parts" zbu):Cal P w K mg base 5 "lifted_left" zcy:=(T.f_lifted_left.cal sc_lifted_left (fun _ _ _ _ _ _=>ls4 fun _ _ _ _=>rfl) (fun f cdv A outer s H E hr=>zmm T C_Wood_node C_height C_parts hr))
theorem sc_lifted_right:FnScope ["wood", "left", "thing", "right", "outer", "inner", "ahead", "behind"] ["wood", "left", "thing", "right"] (zab s_lifted_right):=⟨rfl,rfl,rfl,by decide +kernel,rfl,by decide +kernel,by decide +kernel⟩
theorem zka (T:TX K mg base) (C_Wood_node:Mth P w K mg base 4 "Wood" "node" zan) (C_height:Cal P w K mg base 1 "height" zax) (C_parts:Cal P w K mg base 3 "parts" zbu) (hr:Room 4 (A.deeper (envOfC "lifted_right" (zab s_lifted_right) s.heap.objs.size f cdv))) :
   FSs (cxOf CX0 P w K mg base ["wood", "left", "thing", "right", "outer", "inner", "ahead", "behind"] "lifted_right" (zab s_lifted_right) f cdv A outer s H E).nox (zam s_lifted_right) zfv:=by
 have nd:=sc_lifted_right.nd
 exact (zac (zas 4 (zae C_parts (hr.mono (by decide)) (zaa (fe_v 0) (zaa (fe_v 3) zad))) nd) (zac (zbo (fb_ge (zae C_height (hr.mono (by decide)) (zaa (zar (fe_v 4) (zav T.i_BEHIND)) zad)) (zae C_height (hr.mono (by decide)) (zaa (zar (fe_v 4) (zav T.i_AHEAD)) zad))) (zah (zal (zbz C_Wood_node (hr.mono (by decide)) (fe_v 0) (zaa (zbz C_Wood_node (hr.mono (by decide)) (fe_v 0) (zaa (fe_v 1) (zaa (fe_v 2) (zaa (zar (fe_v 4) (zav T.i_AHEAD)) zad)))) (zaa (zar (fe_v 4) (zav T.i_MIDDLE)) (zaa (zar (fe_v 4) (zav T.i_BEHIND)) zad)))))) zap) (zac (zas 5 (zae C_parts (hr.mono (by decide)) (zaa (fe_v 0) (zaa (zar (fe_v 4) (zav T.i_AHEAD)) zad))) nd) (zac (zas 6 (zbz C_Wood_node (hr.mono (by decide)) (fe_v 0) (zaa (fe_v 1) (zaa (fe_v 2) (zaa (zar (fe_v 5) (zav T.i_AHEAD)) zad)))) nd) (zac (zas 7 (zbz C_Wood_node (hr.mono (by decide)) (fe_v 0) (zaa (zar (fe_v 5) (zav T.i_BEHIND)) (zaa (zar (fe_v 4) (zav T.i_MIDDLE)) (zaa (zar (fe_v 4) (zav T.i_BEHIND)) zad)))) nd) (zah (zal (zbz C_Wood_node (hr.mono (by decide)) (fe_v 0) (zaa (fe_v 6) (zaa (zar (fe_v 5) (zav T.i_MIDDLE)) (zaa (fe_v 7) zad)))))))))))
theorem zim (T:TX K mg base) (C_Wood_node:Mth P w K mg base 4 "Wood" "node" zan) (C_height:Cal P w K mg base 1 "height" zax) (C_parts:Cal P w K mg base 3 "parts" zbu):Cal P w K mg base 5 "lifted_right" zcn:=(T.f_lifted_right.cal sc_lifted_right (fun _ _ _ _ _ _=>ls4 fun _ _ _ _=>rfl) (fun f cdv A outer s H E hr=>zka T C_Wood_node C_height C_parts hr))
theorem sc_balanced:FnScope ["wood", "left", "thing", "right"] ["wood", "left", "thing", "right"] (zab s_balanced):=⟨rfl,rfl,rfl,by decide +kernel,rfl,by decide +kernel,by decide +kernel⟩
theorem ztq (T:TX K mg base) (C_Wood_node:Mth P w K mg base 4 "Wood" "node" zan) (C_height:Cal P w K mg base 1 "height" zax) (C_in_balance:Cal P w K mg base 2 "in_balance" zbh) (C_lifted_left:Cal P w K mg base 5 "lifted_left" zcy) (C_lifted_right:Cal P w K mg base 5 "lifted_right" zcn) (hr:Room 5 (A.deeper (envOfC "balanced" (zab s_balanced) s.heap.objs.size f cdv))) :
   FSs (cxOf CX0 P w K mg base ["wood", "left", "thing", "right"] "balanced" (zab s_balanced) f cdv A outer s H E).nox (zam s_balanced) zkv:=by
 have nd:=sc_balanced.nd
 exact (zac (zbo (zfu (zae C_in_balance (hr.mono (by decide)) (zaa (fe_v 1) (zaa (fe_v 3) zad)))) (zah (zal (zbz C_Wood_node (hr.mono (by decide)) (fe_v 0) (zaa (fe_v 1) (zaa (fe_v 2) (zaa (fe_v 3) zad)))))) zap) (zac (zbo (ztl (zae C_height (hr.mono (by decide)) (zaa (fe_v 1) zad)) (zae C_height (hr.mono (by decide)) (zaa (fe_v 3) zad))) (zah (zal (zae C_lifted_left (hr.mono (by decide)) (zaa (fe_v 0) (zaa (fe_v 1) (zaa (fe_v 2) (zaa (fe_v 3) zad))))))) zap) (zah (zal (zae C_lifted_right (hr.mono (by decide)) (zaa (fe_v 0) (zaa (fe_v 1) (zaa (fe_v 2) (zaa (fe_v 3) zad)))))))))
theorem zpi (T:TX K mg base) (C_Wood_node:Mth P w K mg base 4 "Wood" "node" zan) (C_height:Cal P w K mg base 1 "height" zax) (C_in_balance:Cal P w K mg base 2 "in_balance" zbh) (C_lifted_left:Cal P w K mg base 5 "lifted_left" zcy) (C_lifted_right:Cal P w K mg base 5 "lifted_right" zcn):Cal P w K mg base 6 "balanced" zcf:=(T.f_balanced.cal sc_balanced (fun _ _ _ _ _ _=>ls4 fun _ _ _ _=>rfl) (fun f cdv A outer s H E hr=>ztq T C_Wood_node C_height C_in_balance C_lifted_left C_lifted_right hr))
theorem sc_joined:FnScope ["wood", "left", "thing", "right", "row"] ["wood", "left", "thing", "right"] (zab s_joined):=⟨rfl,rfl,rfl,by decide +kernel,rfl,by decide +kernel,by decide +kernel⟩
theorem d_joined (T:TX K mg base) (C_Wood_node:Mth P w K mg base 4 "Wood" "node" zan) (C_balanced:Cal P w K mg base 6 "balanced" zcf) (C_height:Cal P w K mg base 1 "height" zax) (C_in_balance:Cal P w K mg base 2 "in_balance" zbh) (C_parts:Cal P w K mg base 3 "parts" zbu) {self:G}{n:Nat} (hself:Cal P w K mg base (7 + n) "joined" self) (hr0:Room (7 + n) (A.deeper (envOfC "joined" (zab s_joined) s.heap.objs.size f cdv))) :
   FSs (cxOf CX0 P w K mg base ["wood", "left", "thing", "right", "row"] "joined" (zab s_joined) f cdv A outer s H E).nox (zam s_joined) (zsg self):=by
 have nd:=sc_joined.nd
 have hr:=hr0.mono (Nat.le_add_right 7 n)
 exact (zac (zbo (zfu (zae C_in_balance (hr.mono (by decide)) (zaa (fe_v 1) (zaa (fe_v 3) zad)))) (zah (zal (zbz C_Wood_node (hr.mono (by decide)) (fe_v 0) (zaa (fe_v 1) (zaa (fe_v 2) (zaa (fe_v 3) zad)))))) zap) (zac (zbo (ztl (zae C_height (hr.mono (by decide)) (zaa (fe_v 1) zad)) (zae C_height (hr.mono (by decide)) (zaa (fe_v 3) zad))) (zac (zas 4 (zae C_parts (hr.mono (by decide)) (zaa (fe_v 0) (zaa (fe_v 1) zad))) nd) (zah (zal (zae C_balanced (hr.mono (by decide)) (zaa (fe_v 0) (zaa (zar (fe_v 4) (zav T.i_AHEAD)) (zaa (zar (fe_v 4) (zav T.i_MIDDLE)) (zaa (zae hself hr0 (zaa (fe_v 0) (zaa (zar (fe_v 4) (zav T.i_BEHIND)) (zaa (fe_v 2) (zaa (fe_v 3) zad))))) zad)))))))) zap) (zac (zas 4 (zae C_parts (hr.mono (by decide)) (zaa (fe_v 0) (zaa (fe_v 3) zad))) nd) (zah (zal (zae C_balanced (hr.mono (by decide)) (zaa (fe_v 0) (zaa (zae hself hr0 (zaa (fe_v 0) (zaa (fe_v 1) (zaa (fe_v 2) (zaa (zar (fe_v 4) (zav T.i_AHEAD)) zad))))) (zaa (zar (fe_v 4) (zav T.i_MIDDLE)) (zaa (zar (fe_v 4) (zav T.i_BEHIND)) zad))))))))))
theorem znm (T:TX K mg base) (C_Wood_node:Mth P w K mg base 4 "Wood" "node" zan) (C_balanced:Cal P w K mg base 6 "balanced" zcf) (C_height:Cal P w K mg base 1 "height" zax) (C_in_balance:Cal P w K mg base 2 "in_balance" zbh) (C_parts:Cal P w K mg base 3 "parts" zbu):∀n:Nat,Cal P w K mg base (7 + n) "joined" (zcz n)
 | 0=>T.f_joined.none0 (ps:=["wood", "left", "thing", "right"]) (fun _ _ _ _ _ _=>ls4 fun _ _ _ _=>rfl)
 | n + 1=>T.f_joined.cal sc_joined (fun _ _ _ _ _ _=>ls4 fun _ _ _ _=>rfl) (fun f cdv A outer s H E hr=>d_joined T C_Wood_node C_balanced C_height C_in_balance C_parts (znm T C_Wood_node C_balanced C_height C_in_balance C_parts n) hr)
theorem sc_cut_ahead:FnScope ["wood", "make", "place", "row", "middle", "halves"] ["wood", "make", "place"] (zab s_cut_ahead):=⟨rfl,rfl,rfl,by decide +kernel,rfl,by decide +kernel,by decide +kernel⟩
theorem zpu (T:TX K mg base) (C_joined:Cal P w K mg base (7 + 40) "joined" (zcz 40)) (C_parts:Cal P w K mg base 3 "parts" zbu) (C_size:Cal P w K mg base 1 "size" zbp) {self:G}{n:Nat} (hself:Cal P w K mg base (48 + n) "cut_ahead" self) (hr0:Room (48 + n) (A.deeper (envOfC "cut_ahead" (zab s_cut_ahead) s.heap.objs.size f cdv))) :
   FSs (cxOf CX0 P w K mg base ["wood", "make", "place", "row", "middle", "halves"] "cut_ahead" (zab s_cut_ahead) f cdv A outer s H E).nox (zam s_cut_ahead) (zji self):=by
 have nd:=sc_cut_ahead.nd
 have hr:=hr0.mono (Nat.le_add_right 48 n)
 exact (zac (zbo (zfb hr (fe_v 2) zai) (zah (zal (zdc (zaa zcl (zaa (fe_v 1) zad))))) zap) (zac (zbo (zfb hr (fe_v 2) (zae C_size (hr.mono (by decide)) (zaa (fe_v 1) zad))) (zah (zal (zdc (zaa (fe_v 1) (zaa zcl zad))))) zap) (zac (zas 3 (zae C_parts (hr.mono (by decide)) (zaa (fe_v 0) (zaa (fe_v 1) zad))) nd) (zac (zas 4 (zae C_size (hr.mono (by decide)) (zaa (zar (fe_v 3) (zav T.i_AHEAD)) zad)) nd) (zac (zbo (fb_le (fe_v 2) (fe_v 4)) (zac (zas 5 (zae hself hr0 (zaa (fe_v 0) (zaa (zar (fe_v 3) (zav T.i_AHEAD)) (zaa (fe_v 2) zad)))) nd) (zah (zal (zdc (zaa (zar (fe_v 5) zai) (zaa (zae C_joined (hr.mono (by decide)) (zaa (fe_v 0) (zaa (zar (fe_v 5) zai) (zaa (zar (fe_v 3) (zav T.i_MIDDLE)) (zaa (zar (fe_v 3) (zav T.i_BEHIND)) zad))))) zad)))))) zap) (zac (zas 5 (zae hself hr0 (zaa (fe_v 0) (zaa (zar (fe_v 3) (zav T.i_BEHIND)) (zaa (zen (zen (fe_v 2) (fe_v 4)) zai) zad)))) nd) (zah (zal (zdc (zaa (zae C_joined (hr.mono (by decide)) (zaa (fe_v 0) (zaa (zar (fe_v 3) (zav T.i_AHEAD)) (zaa (zar (fe_v 3) (zav T.i_MIDDLE)) (zaa (zar (fe_v 5) zai) zad))))) (zaa (zar (fe_v 5) zai) zad)))))))))))
theorem zhf (T:TX K mg base) (C_joined:Cal P w K mg base (7 + 40) "joined" (zcz 40)) (C_parts:Cal P w K mg base 3 "parts" zbu) (C_size:Cal P w K mg base 1 "size" zbp):∀n:Nat,Cal P w K mg base (48 + n) "cut_ahead" (zct n)
 | 0=>T.f_cut_ahead.none0 (ps:=["wood", "make", "place"]) (fun _ _ _ _ _ _=>ls3 fun _ _ _=>rfl)
 | n + 1=>T.f_cut_ahead.cal sc_cut_ahead (fun _ _ _ _ _ _=>ls3 fun _ _ _=>rfl) (fun f cdv A outer s H E hr=>zpu T C_joined C_parts C_size (zhf T C_joined C_parts C_size n) hr)
theorem sc_laid_together:FnScope ["wood", "one", "other"] ["wood", "one", "other"] (zab s_laid_together):=⟨rfl,rfl,rfl,by decide +kernel,rfl,by decide +kernel,by decide +kernel⟩
theorem zja (T:TX K mg base) (C_joined:Cal P w K mg base (7 + 40) "joined" (zcz 40)) (C_thing_at:Cal P w K mg base (2 + 40) "thing_at" (zcc 40)) {self:G}{n:Nat} (hself:Cal P w K mg base (48 + 2 * n) "taken_out" self) (hr0:Room (48 + 2 * n) (A.deeper (envOfC "laid_together" (zab s_laid_together) s.heap.objs.size f cdv))) :
   FSs (cxOf CX0 P w K mg base ["wood", "one", "other"] "laid_together" (zab s_laid_together) f cdv A outer s H E).nox (zam s_laid_together) (zff self):=by
 have nd:=sc_laid_together.nd
 have hr:=hr0.mono (Nat.le_add_right 48 (2 * n))
 exact (zac (zbo (zjz (fe_v 1) zcl) (zah (zal (fe_v 2))) zap) (zac (zbo (zjz (fe_v 2) zcl) (zah (zal (fe_v 1))) zap) (zah (zal (zae C_joined (hr.mono (by decide)) (zaa (fe_v 0) (zaa (fe_v 1) (zaa (zae C_thing_at (hr.mono (by decide)) (zaa (fe_v 2) (zaa zmh (zaa zai zad)))) (zaa (zae hself hr0 (zaa (fe_v 0) (zaa (fe_v 2) (zaa zai zad)))) zad)))))))))
theorem zem (T:TX K mg base) (C_joined:Cal P w K mg base (7 + 40) "joined" (zcz 40)) (C_thing_at:Cal P w K mg base (2 + 40) "thing_at" (zcc 40)) {self:G}{n:Nat} (hself:Cal P w K mg base (48 + 2 * n) "taken_out" self):Cal P w K mg base (48 + 2 * n + 1) "laid_together" (zcb self):=T.f_laid_together.cal sc_laid_together (fun _ _ _ _ _ _=>ls3 fun _ _ _=>rfl) (fun f cdv A outer s H E hr=>zja T C_joined C_thing_at hself hr)
theorem sc_taken_out:FnScope ["wood", "make", "place", "row", "middle"] ["wood", "make", "place"] (zab s_taken_out):=⟨rfl,rfl,rfl,by decide +kernel,rfl,by decide +kernel,by decide +kernel⟩
theorem zpt (T:TX K mg base) (C_balanced:Cal P w K mg base 6 "balanced" zcf) (C_parts:Cal P w K mg base 3 "parts" zbu) (C_size:Cal P w K mg base 1 "size" zbp) {self aux:G}{n:Nat} (hself:Cal P w K mg base (48 + 2 * n) "taken_out" self) (haux:Cal P w K mg base (48 + 2 * n + 1) "laid_together" aux) (hr0:Room (48 + 2 * n + 1) (A.deeper (envOfC "taken_out" (zab s_taken_out) s.heap.objs.size f cdv))) :
   FSs (cxOf CX0 P w K mg base ["wood", "make", "place", "row", "middle"] "taken_out" (zab s_taken_out) f cdv A outer s H E).nox (zam s_taken_out) (zjh self aux):=by
 have nd:=sc_taken_out.nd
 have hr1:=hr0.mono (Nat.le_succ (48 + 2 * n))
 have hr:=hr1.mono (Nat.le_add_right 48 (2 * n))
 exact (zac (zas 3 (zae C_parts (hr.mono (by decide)) (zaa (fe_v 0) (zaa (fe_v 1) zad))) nd) (zac (zas 4 (zae C_size (hr.mono (by decide)) (zaa (zar (fe_v 3) (zav T.i_AHEAD)) zad)) nd) (zac (zbo (fb_lt (fe_v 2) (fe_v 4)) (zah (zal (zae C_balanced (hr.mono (by decide)) (zaa (fe_v 0) (zaa (zae hself hr1 (zaa (fe_v 0) (zaa (zar (fe_v 3) (zav T.i_AHEAD)) (zaa (fe_v 2) zad)))) (zaa (zar (fe_v 3) (zav T.i_MIDDLE)) (zaa (zar (fe_v 3) (zav T.i_BEHIND)) zad))))))) zap) (zac (zbo (ztl (fe_v 2) (fe_v 4)) (zah (zal (zae C_balanced (hr.mono (by decide)) (zaa (fe_v 0) (zaa (zar (fe_v 3) (zav T.i_AHEAD)) (zaa (zar (fe_v 3) (zav T.i_MIDDLE)) (zaa (zae hself hr1 (zaa (fe_v 0) (zaa (zar (fe_v 3) (zav T.i_BEHIND)) (zaa (zen (zen (fe_v 2) (fe_v 4)) zai) zad)))) zad))))))) zap) (zah (zal (zae haux hr0 (zaa (fe_v 0) (zaa (zar (fe_v 3) (zav T.i_AHEAD)) (zaa (zar (fe_v 3) (zav T.i_BEHIND)) zad))))))))))
theorem zhe (T:TX K mg base) (C_balanced:Cal P w K mg base 6 "balanced" zcf) (C_parts:Cal P w K mg base 3 "parts" zbu) (C_size:Cal P w K mg base 1 "size" zbp) (C_joined:Cal P w K mg base (7 + 40) "joined" (zcz 40)) (C_thing_at:Cal P w K mg base (2 + 40) "thing_at" (zcc 40)):∀n:Nat,Cal P w K mg base (48 + 2 * n) "taken_out" (zcs n)
 | 0=>T.f_taken_out.none0 (ps:=["wood", "make", "place"]) (fun _ _ _ _ _ _=>ls3 fun _ _ _=>rfl)
 | n + 1=>by
   have ih:=zhe T C_balanced C_parts C_size C_joined C_thing_at n
   exact (show Cal P w K mg base ((48 + 2 * n + 1) + 1) "taken_out" (zcs (n + 1)) from T.f_taken_out.cal sc_taken_out (fun _ _ _ _ _ _=>ls3 fun _ _ _=>rfl) (fun f cdv A outer s H E hr=>zpt T C_balanced C_parts C_size ih (zem T C_joined C_thing_at ih) hr))
theorem sc_turned_part:FnScope ["wood", "make", "start", "end", "behind", "ahead", "begin"] ["wood", "make", "start", "end"] (zab s_turned_part):=⟨rfl,rfl,rfl,by decide +kernel,rfl,by decide +kernel,by decide +kernel⟩
theorem zml (T:TX K mg base) (C_Wood_turned:Mth P w K mg base 2 "Wood" "turned" zat) (C_check_stretch:Cal P w K mg base 2 "check_stretch" zck) (C_cut_ahead:Cal P w K mg base (48 + 40) "cut_ahead" (zct 40)) (C_laid_together:Cal P w K mg base (48 + 2 * 40 + 1) "laid_together" zcj) (hr:Room 129 (A.deeper (envOfC "turned_part" (zab s_turned_part) s.heap.objs.size f cdv))) :
   FSs (cxOf CX0 P w K mg base ["wood", "make", "start", "end", "behind", "ahead", "begin"] "turned_part" (zab s_turned_part) f cdv A outer s H E).nox (zam s_turned_part) zgo:=by
 have nd:=sc_turned_part.nd
 exact (zac (zga (zae C_check_stretch (hr.mono (by decide)) (zaa (fe_v 1) (zaa (fe_v 2) (zaa (fe_v 3) zad))))) (zac (zas 4 (zae C_cut_ahead (hr.mono (by decide)) (zaa (fe_v 0) (zaa (fe_v 1) (zaa (fe_v 3) zad)))) nd) (zac (zas 5 (zae C_cut_ahead (hr.mono (by decide)) (zaa (fe_v 0) (zaa (zar (fe_v 4) zai) (zaa (fe_v 2) zad)))) nd) (zac (zas 6 (zae C_laid_together (hr.mono (by decide)) (zaa (fe_v 0) (zaa (zar (fe_v 5) zai) (zaa (zbz C_Wood_turned (hr.mono (by decide)) (fe_v 0) (zaa (zar (fe_v 5) zai) zad)) zad)))) nd) (zah (zal (zae C_laid_together (hr.mono (by decide)) (zaa (fe_v 0) (zaa (fe_v 6) (zaa (zar (fe_v 4) zai) zad))))))))))
theorem zju (T:TX K mg base) (C_Wood_turned:Mth P w K mg base 2 "Wood" "turned" zat) (C_check_stretch:Cal P w K mg base 2 "check_stretch" zck) (C_cut_ahead:Cal P w K mg base (48 + 40) "cut_ahead" (zct 40)) (C_laid_together:Cal P w K mg base (48 + 2 * 40 + 1) "laid_together" zcj):Cal P w K mg base 130 "turned_part" zcx:=(T.f_turned_part.cal sc_turned_part (fun _ _ _ _ _ _=>ls4 fun _ _ _ _=>rfl) (fun f cdv A outer s H E hr=>zml T C_Wood_turned C_check_stretch C_cut_ahead C_laid_together hr))
theorem sc__law_set:FnScope ["_law_script", "_law_wood", "_law_things", "_law_way", "_law_start", "_law_end", "_law_amid"] ["_law_script", "_law_wood", "_law_things"] (zab s__law_set):=⟨rfl,rfl,rfl,by decide +kernel,rfl,by decide +kernel,by decide +kernel⟩
theorem ztr (T:TX K mg base) (C_Wood_turned:Mth P w K mg base 2 "Wood" "turned" zat) (C__law_cell:Cal P w K mg base 1 "_law_cell" zaw) (C_make_of:Cal P w K mg base 46 "make_of" zdu) (C_turned_part:Cal P w K mg base 130 "turned_part" zcx) (hr:Room 130 (A.deeper (envOfC "_law_set" (zab s__law_set) s.heap.objs.size f cdv))) :
   FSs (cxOf CX0 P w K mg base ["_law_script", "_law_wood", "_law_things", "_law_way", "_law_start", "_law_end", "_law_amid"] "_law_set" (zab s__law_set) f cdv A outer s H E).nox (zam s__law_set) zkw:=by
 have nd:=sc__law_set.nd
 exact (zac (zas 3 (zdk (zae C__law_cell (hr.mono (by decide)) (zaa (fe_v 0) (zaa zai zad))) zai) nd) (zac (zbo (zfb hr (fe_v 3) zai) (zah (zal (zae C_make_of (hr.mono (by decide)) (zaa (fe_v 1) (zaa (fe_listV T.b_list (zaa (fe_v 2) zad)) zad))))) zap) (zac (zbo (zfb hr (fe_v 3) zai) (zah (zal (zbz C_Wood_turned (hr.mono (by decide)) (fe_v 1) (zaa (zae C_make_of (hr.mono (by decide)) (zaa (fe_v 1) (zaa (zkm T.b_list T.b_reversed (fe_v 2)) zad))) zad)))) zap) (zac (zas 4 (zdk (zae C__law_cell (hr.mono (by decide)) (zaa (fe_v 0) (zaa zai zad))) (zbt (zgl T.b_len (zaa (fe_v 2) zad)) zai)) nd) (zac (zas 5 (zbt (fe_v 4) (zdk (zae C__law_cell (hr.mono (by decide)) (zaa (fe_v 0) (zaa zai zad))) (zen (zbt (zgl T.b_len (zaa (fe_v 2) zad)) zai) (fe_v 4)))) nd) (zac (zas 6 (zkm T.b_list T.b_reversed (zfo (fe_v 2) (zfa (fe_v 4)) (zfa (fe_v 5)))) nd) (zah (zal (zae C_turned_part (hr.mono (by decide)) (zaa (fe_v 1) (zaa (zae C_make_of (hr.mono (by decide)) (zaa (fe_v 1) (zaa (zbt (zbt (zfo (fe_v 2) zhd (zfa (fe_v 4))) (fe_v 6)) (zfo (fe_v 2) (zfa (fe_v 5)) zhd)) zad))) (zaa (fe_v 4) (zaa (fe_v 5) zad)))))))))))))
theorem zpj (T:TX K mg base) (C_Wood_turned:Mth P w K mg base 2 "Wood" "turned" zat) (C__law_cell:Cal P w K mg base 1 "_law_cell" zaw) (C_make_of:Cal P w K mg base 46 "make_of" zdu) (C_turned_part:Cal P w K mg base 130 "turned_part" zcx):Cal P w K mg base 131 "_law_set" zfn:=(T.f__law_set.cal sc__law_set (fun _ _ _ _ _ _=>ls3 fun _ _ _=>rfl) (fun f cdv A outer s H E hr=>ztr T C_Wood_turned C__law_cell C_make_of C_turned_part hr))
theorem sc__law_thing:FnScope ["_law_kind", "_law_cell_here", "_law_text", "_law_k"] ["_law_kind", "_law_cell_here"] (zab s__law_thing):=⟨rfl,rfl,rfl,by decide +kernel,rfl,by decide +kernel,by decide +kernel⟩
theorem zoe (T:TX K mg base) (hr:Room 0 (A.deeper (envOfC "_law_thing" (zab s__law_thing) s.heap.objs.size f cdv))) :
   FSs (cxOf CX0 P w K mg base ["_law_kind", "_law_cell_here", "_law_text", "_law_k"] "_law_thing" (zab s__law_thing) f cdv A outer s H E).nox (zam s__law_thing) zhl:=by
 have nd:=sc__law_thing.nd
 exact (zac (zbo (fb_w (fw_and (fb_lt (fe_v 0) zai) (fw_and1 (zfb hr (zdk (fe_v 1) zai) zai)))) (zah (zal (zen (zbt (zdk (zhg (zbt (fe_v 1) zai) (zrp zai zai)) (zen (zhg zai (zrp zai zai)) zai)) zai) (zrp zai zai)))) zap) (zac (zbo (fb_lt (fe_v 0) zai) (zah (zal (zen (zdk (znv (fe_v 1) zai) zai) zai))) zap) (zac (zas 2 fe_str nd) (zac (zwr 3 nd T.b_range (zbt zai (zdk (fe_v 1) zai)) (zah (zas 2 (zbt (fe_v 2) (zar fe_str (zdk (znv (fe_v 1) (zar (zdc (zaa zai (zaa zai (zaa zai (zaa zai (zaa zai (zaa zai (zaa zai (zaa zai zad))))))))) (fe_v 3))) zai))) nd)) PassesOwn.never) (zah (zal (fe_v 2)))))))
theorem zly (T:TX K mg base):Cal P w K mg base 1 "_law_thing" zbq:=(T.f__law_thing.cal sc__law_thing (fun _ _ _ _ _ _=>ls2 fun _ _=>rfl) (fun f cdv A outer s H E hr=>zoe T  hr))
theorem sc__law_some:FnScope ["_law_script", "_law_kind", "_law_first", "_law_many", "_law_found", "_law_k", "_law_thing_here"] ["_law_script", "_law_kind", "_law_first", "_law_many"] (zab s__law_some):=⟨rfl,rfl,rfl,by decide +kernel,rfl,by decide +kernel,by decide +kernel⟩
theorem zpv (T:TX K mg base) (C__law_cell:Cal P w K mg base 1 "_law_cell" zaw) (C__law_key:Cal P w K mg base 1 "_law_key" zbb) (C__law_thing:Cal P w K mg base 1 "_law_thing" zbq) {f:Addr}{cdv:Value} (hco:zgu K mg "_law_some" cdv) {A:Around}{outer:List Env}{s:Shared}{H:Hp}{E:XK} (hr:Room 4 (A.deeper (envOfC "_law_some" (zab s__law_some) s.heap.objs.size f cdv))) :
   FSs (cxOf CX0 P w K mg base ["_law_script", "_law_kind", "_law_first", "_law_many", "_law_found", "_law_k", "_law_thing_here"] "_law_some" (zab s__law_some) f cdv A outer s H E).nox (zam s__law_some) zjj:=by
 have nd:=sc__law_some.nd
 exact (zac (zas 4 (zwz zad) nd) (zac (zwr 5 nd T.b_range (fe_v 3) (zac (zas 6 (zae C__law_thing (hr.mono (by decide)) (zaa (fe_v 1) (zaa (zae C__law_cell (hr.mono (by decide)) (zaa (fe_v 0) (zaa (zbt (fe_v 2) (fe_v 5)) zad))) zad))) nd) (zah (zbo (zfb hr (by exact fe_compO (zgn (x:="_law_one") (N':=["_law_kind", "_law_thing_here"]) (fr:=[1,6]) (by decide +kernel) rfl rfl rfl rfl rfl) (fe_v 4) (fun _ _ _ _=>.one (zfb hr (zae C__law_key (hr.mono (by decide)) (zaa (fe_v 1) (zaa (fe_v 0) zad))) (zae C__law_key (hr.mono (by decide)) (zaa (fe_v 1) (zaa (fe_v 2) zad))))) (fun _ _ _ _=>(fe_v 0))) (fe_lst zad)) (zah (znu (fe_v 4) (fe_v 6))) zap))) PassesOwn.never) (zah (zal (fe_sortC (kl_0 T C__law_key) (CapsOk.mk rfl rfl (List.forall_mem_cons.mpr ⟨rfl,(fun _ h=>nomatch h)⟩) (by decide +kernel) rfl (List.forall_mem_cons.mpr ⟨rfl,(fun _ h=>nomatch h)⟩) (fun _ _=>rfl)) (hr.mono (by decide)) (fe_v 4) (pe_clo 1 hco T.blt rfl) T.b_sorted)))))
theorem zno (T:TX K mg base) (C__law_cell:Cal P w K mg base 1 "_law_cell" zaw) (C__law_key:Cal P w K mg base 1 "_law_key" zbb) (C__law_thing:Cal P w K mg base 1 "_law_thing" zbq):Cal P w K mg base 5 "_law_some" zel:=(T.f__law_some.calL sc__law_some (fun _ _ _ _ _ _=>ls4 fun _ _ _ _=>rfl) (fun f cdv co A outer s H E hr=>zpv T C__law_cell C__law_key C__law_thing co hr)).frz
theorem sc_gather:FnScope ["make", "turned", "found", "row"] ["make", "turned", "found"] (zab s_gather):=⟨rfl,rfl,rfl,by decide +kernel,rfl,by decide +kernel,by decide +kernel⟩
theorem d_gather (T:TX K mg base) (C_seen:Cal P w K mg base 1 "seen" zey) {self:G}{n:Nat} (hself:Cal P w K mg base (2 + n) "gather" self) (hr0:Room (2 + n) (A.deeper (envOfC "gather" (zab s_gather) s.heap.objs.size f cdv))) :
   FSs (cxOf CX0 P w K mg base ["make", "turned", "found", "row"] "gather" (zab s_gather) f cdv A outer s H E).nox (zam s_gather) (zsi self):=by
 have nd:=sc_gather.nd
 have hr:=hr0.mono (Nat.le_add_right 2 n)
 exact (zac (zbo (zjz (fe_v 0) zcl) (zah fs_retN) zap) (zac (zas 3 (zae C_seen (hr.mono (by decide)) (zaa (fe_v 0) (zaa (fe_v 1) zad))) nd) (zac (zga (zae hself hr0 (zaa (zar (fe_v 3) (zav T.i_AHEAD)) (zaa (zar (fe_v 3) (zav T.i_TURNED)) (zaa (fe_v 2) zad))))) (zac (znu (fe_v 2) (zar (fe_v 3) (zav T.i_MIDDLE))) (zah (zga (zae hself hr0 (zaa (zar (fe_v 3) (zav T.i_BEHIND)) (zaa (zar (fe_v 3) (zav T.i_TURNED)) (zaa (fe_v 2) zad))))))))))
theorem znn (T:TX K mg base) (C_seen:Cal P w K mg base 1 "seen" zey):∀n:Nat,Cal P w K mg base (2 + n) "gather" (zfm n)
 | 0=>T.f_gather.none0 (ps:=["make", "turned", "found"]) (fun _ _ _ _ _ _=>ls3 fun _ _ _=>rfl)
 | n + 1=>T.f_gather.cal sc_gather (fun _ _ _ _ _ _=>ls3 fun _ _ _=>rfl) (fun f cdv A outer s H E hr=>d_gather T C_seen (znn T C_seen n) hr)
theorem sc_things_of:FnScope ["make", "found"] ["make"] (zab s_things_of):=⟨rfl,rfl,rfl,by decide +kernel,rfl,by decide +kernel,by decide +kernel⟩
theorem zps (T:TX K mg base) (C_gather:Cal P w K mg base (2 + 40) "gather" (zfm 40)) (hr:Room 42 (A.deeper (envOfC "things_of" (zab s_things_of) s.heap.objs.size f cdv))) :
   FSs (cxOf CX0 P w K mg base ["make", "found"] "things_of" (zab s_things_of) f cdv A outer s H E).nox (zam s_things_of) zge:=by
 have nd:=sc_things_of.nd
 exact (zac (zas 1 (zwz zad) nd) (zac (zga (zae C_gather (hr.mono (by decide)) (zaa (fe_v 0) (zaa zmh (zaa (fe_v 1) zad))))) (zah (zal (fe_v 1)))))
theorem znl (T:TX K mg base) (C_gather:Cal P w K mg base (2 + 40) "gather" (zfm 40)):Cal P w K mg base 43 "things_of" zdt:=(T.f_things_of.cal sc_things_of (fun _ _ _ _ _ _=>ls1 fun _=>rfl) (fun f cdv A outer s H E hr=>zps T C_gather hr)).frz
theorem sc_law:FnScope ["_law_script", "_law_kind", "_law_many", "_law_things", "_law_make", "_law_asked_here", "_law_thing_here"] ["_law_script"] (zab s_law):=⟨rfl,rfl,rfl,by decide +kernel,rfl,by decide +kernel,by decide +kernel⟩
structure CX_law (P:Program) (w:World) (K:PySem.W.Frag) (mg:Str→Option Value) (base:Heap):Prop where
 mk ::
 k_Wood___init___d:Mak P w K mg base 1 "Wood" (dflt 1 zbs)
 k__law_asked:Cal P w K mg base 46 "_law_asked" zdj
 k__law_cell:Cal P w K mg base 1 "_law_cell" zaw
 k__law_set:Cal P w K mg base 131 "_law_set" zfn
 k__law_some:Cal P w K mg base 5 "_law_some" zel
 k__law_thing:Cal P w K mg base 1 "_law_thing" zbq
 k_things_of:Cal P w K mg base 43 "things_of" zdt
theorem d_law (T:TX K mg base) (C:CX_law P w K mg base) (hr:Room 131 (A.deeper (envOfC "law" (zab s_law) s.heap.objs.size f cdv))) :
   FSs (cxOf CX0 P w K mg base ["_law_script", "_law_kind", "_law_many", "_law_things", "_law_make", "_law_asked_here", "_law_thing_here"] "law" (zab s_law) f cdv A outer s H E).nox (zam s_law) c_law:=by
 have nd:=sc_law.nd
 exact (zac (zas 1 (zdk (zae C.k__law_cell (hr.mono (by decide)) (zaa (fe_v 0) (zaa zai zad))) zai) nd) (zac (zas 2 (zdk (zae C.k__law_cell (hr.mono (by decide)) (zaa (fe_v 0) (zaa zai zad))) zai) nd) (zac (zbo (zfb hr (zdk (zae C.k__law_cell (hr.mono (by decide)) (zaa (fe_v 0) (zaa zai zad))) zai) zai) (zah (zas 2 zai nd)) zap) (zac (zas 3 (zae C.k__law_some (hr.mono (by decide)) (zaa (fe_v 0) (zaa (fe_v 1) (zaa zai (zaa (fe_v 2) zad))))) nd) (zac (zas 4 (zae C.k__law_set (hr.mono (by decide)) (zaa (fe_v 0) (zaa (fe_make0 C.k_Wood___init___d (hr.mono (by decide))) (zaa (fe_v 3) zad)))) nd) (zac (zas 5 (zbt (zbt (fe_compR (zgn (x:="_law_k") (N':=["_law_kind", "_law_script"]) (fr:=[1,0]) (by decide +kernel) rfl rfl rfl rfl rfl) T.b_range zai (fun _ _ _ _=>(zae C.k__law_thing (hr.mono (by decide)) (zaa (fe_v 1) (zaa (zae C.k__law_cell (hr.mono (by decide)) (zaa (fe_v 2) (zaa (zbt zai (fe_v 0)) zad))) zad))))) (zfo (fe_v 3) zhd (zfa zai))) (zfo (fe_v 3) (zfa (fe_neg zai)) zhd)) nd) (zac (fs_forL 6 nd (zbt (fe_v 5) (zfo (fe_v 5) zhd (zfa zai))) (zah (zbo (ziz (zfu (zae C.k__law_asked (hr.mono (by decide)) (zaa (fe_v 4) (zaa (fe_v 3) (zaa (fe_v 6) (zaa (fe_v 1) zad))))))) (zah (zal zmh)) zap)) PassesOwn.never) (zah (zal (fe_eq hr (zae C.k_things_of (hr.mono (by decide)) (zaa (fe_v 4) zad)) (fe_v 3)))))))))))
theorem law_fn {P:Program}{w:World}{K:PySem.W.Frag}{mg:Str→Option Value} (T0:HasDef K mg "law" s_law 0) (C:∀base,BltB base mg→TX K mg base∧CX_law P w K mg base):∃fa fd,mg "law"=some (.ref fa)∧(∀(s:Shared) (v:Value),BindsTo s fd ⟨[v],[]⟩ [("_law_script",v)])∧∀base,BltB base mg→FnOk P w K mg base CX0 132 fa fd ["_law_script"] (spG K mg g_law):=by
 obtain ⟨f,fd,dV,F,hm,rfl⟩:=T0.ex
 have B:=F.binds0 (ps:=["_law_script"]) (fun _ _ _ _ _ _=>ls1 fun _=>rfl)
 refine ⟨f,fd,hm,?_,fun base hB=>F.ok sc_law fun cdv A outer s H E hr=>d_law (C base hB).1 (C base hB).2 hr⟩
 obtain ⟨oc,od,kV,doc,pm,an,cdv,ct,osl,rfl,lk,hcd⟩:=F.ex
 exact fun s v=>.of_eq rfl
theorem law_all {P:Program}{w:World}{K:PySem.W.Frag}{mg:Str→Option Value} (T:∀base,BltB base mg→TX K mg base) (T0:HasDef K mg "law" s_law 0):∃fa fd,mg "law"=some (.ref fa)∧(∀(s:Shared) (v:Value),BindsTo s fd ⟨[v],[]⟩ [("_law_script",v)])∧∀base,BltB base mg→FnOk P w K mg base CX0 132 fa fd ["_law_script"] (spG K mg g_law):=by
 refine law_fn T0 fun base hB=>?_
 have T:=T base hB
 have k_Wood___init__:=zhq (P:=P) (w:=w) (base:=base) T 
 have k_Wood___init___d:=zhr (P:=P) (w:=w) (base:=base) T 
 have k__law_key:=zpk (P:=P) (w:=w) (base:=base) T 
 have k_check_place:=zjx (P:=P) (w:=w) (base:=base) T 
 have k_size:=kk_size (P:=P) (w:=w) (base:=base) T 
 have k_seen:=kk_seen (P:=P) (w:=w) (base:=base) T 
 have k_thing_at:=zil (P:=P) (w:=w) (base:=base) T k_seen k_size 40
 have k_at:=kk_at (P:=P) (w:=w) (base:=base) T k_check_place k_size k_thing_at
 have hlt:∀t g,lamt t=some g→LCal P w K mg base 1 t g:=by
   intro t g e
   unfold lamt at e
   cases e
 have hft:∀x g,ft x=some g→Cal P w K mg base 1 x g:=by
   intro x g e
   unfold ft at e
   cases e
 have hct:∀t g,clot t=some g→CCal P w K mg base 2 t g:=by
   intro t g e
   unfold clot at e
   split at e
   · rename_i hx;cases e;subst hx;exact (kl_0 T k__law_key).mono (by decide)
   split at e
   · rename_i hx;cases e;subst hx;exact (kl_1 T k__law_key).mono (by decide)
   cases e
 have k_is_alike_at:=zjw (P:=P) (w:=w) (base:=base) T k_at k_size hft hlt hct
 have k_count_before:=zew (P:=P) (w:=w) (base:=base) T k_seen k_size hft hlt hct 40
 have k_place_of:=zph (P:=P) (w:=w) (base:=base) T k_count_before
 have k_has:=kk_has (P:=P) (w:=w) (base:=base) T k_is_alike_at k_place_of
 have k__law_asked:=zlz (P:=P) (w:=w) (base:=base) T k__law_key k_has k_place_of
 have k__law_cell:=znp (P:=P) (w:=w) (base:=base) T 
 have k_Wood_numbered:=zhp (P:=P) (w:=w) (base:=base) T 
 have k_back:=kk_back (P:=P) (w:=w) (base:=base) T 
 have k_height:=zwc (P:=P) (w:=w) (base:=base) T 
 have k_total:=kk_total (P:=P) (w:=w) (base:=base) T 
 have k_Wood_turned:=zjy (P:=P) (w:=w) (base:=base) T k_Wood_numbered k_back k_height k_size k_total
 have k_check_room:=zlx (P:=P) (w:=w) (base:=base) T 
 have k_height_above:=zin (P:=P) (w:=w) (base:=base) T k_height
 have k_in_balance:=zlw (P:=P) (w:=w) (base:=base) T k_height
 have k_size_above:=zlu (P:=P) (w:=w) (base:=base) T k_size
 have k_backward_sum:=zio (P:=P) (w:=w) (base:=base) T k_back hft hlt
 have k_onward_sum:=zlv (P:=P) (w:=w) (base:=base) T k_total hft hlt
 have k_sums_above:=zlt (P:=P) (w:=w) (base:=base) T k_backward_sum k_onward_sum
 have k_Wood_node:=znq (P:=P) (w:=w) (base:=base) T k_Wood_numbered k_check_room k_height_above k_in_balance k_size_above k_sums_above
 have k_built:=zrg (P:=P) (w:=w) (base:=base) T k_Wood_node 40
 have k_make_of:=ztg (P:=P) (w:=w) (base:=base) T k_built k_check_room
 have k_check_stretch:=zho (P:=P) (w:=w) (base:=base) T k_size
 have k_parts:=kk_parts (P:=P) (w:=w) (base:=base) T k_Wood_turned
 have k_lifted_left:=zjv (P:=P) (w:=w) (base:=base) T k_Wood_node k_height k_parts
 have k_lifted_right:=zim (P:=P) (w:=w) (base:=base) T k_Wood_node k_height k_parts
 have k_balanced:=zpi (P:=P) (w:=w) (base:=base) T k_Wood_node k_height k_in_balance k_lifted_left k_lifted_right
 have k_joined:=znm (P:=P) (w:=w) (base:=base) T k_Wood_node k_balanced k_height k_in_balance k_parts 40
 have k_cut_ahead:=zhf (P:=P) (w:=w) (base:=base) T k_joined k_parts k_size 40
 have k_taken_out:=zhe (P:=P) (w:=w) (base:=base) T k_balanced k_parts k_size k_joined k_thing_at 40
 have k_laid_together:=zem (P:=P) (w:=w) (base:=base) T k_joined k_thing_at k_taken_out
 have k_turned_part:=zju (P:=P) (w:=w) (base:=base) T k_Wood_turned k_check_stretch k_cut_ahead k_laid_together
 have k__law_set:=zpj (P:=P) (w:=w) (base:=base) T k_Wood_turned k__law_cell k_make_of k_turned_part
 have k__law_thing:=zly (P:=P) (w:=w) (base:=base) T 
 have k__law_some:=zno (P:=P) (w:=w) (base:=base) T k__law_cell k__law_key k__law_thing
 have k_gather:=znn (P:=P) (w:=w) (base:=base) T k_seen 40
 have k_things_of:=znl (P:=P) (w:=w) (base:=base) T k_gather
 exact ⟨T,⟨k_Wood___init___d,k__law_asked,k__law_cell,k__law_set,k__law_some,k__law_thing,k_things_of⟩⟩
end Pg
set_option maxHeartbeats 8000000
open PySem PySem.W L2 F PySem.Spec PyProof.Rows
namespace PySem.W.Fast
def tw2855451036952429966:Unit:=()
def tw7994424126252806350:Unit:=()
def tw6882641248785026482:Unit:=()
def tw1788084112904612531:Unit:=()
def tw2663455510597201044:Unit:=()
def tw4650616861160529583:Unit:=()
def tw1593222359617390498:Unit:=()
def tw11774198206897716845:Unit:=()
def tw4123965718389814621:Unit:=()
def tw17659231272220349588:Unit:=()
def tw12619286987644579567:Unit:=()
def tw10054682829867859974:Unit:=()
def tw1011607921089157390:Unit:=()
def tw4237719402711096548:Unit:=()
def tw8140488237722087972:Unit:=()
def tw10858112333875710531:Unit:=()
def tw11322811928593807204:Unit:=()
def tw13826134324164661634:Unit:=()
def tw18022015192273233349:Unit:=()
def tw2566565221242155203:Unit:=()
def tw1712707496901007560:Unit:=()
def tw298254136141154862:Unit:=()
def tw13772098268830968485:Unit:=()
def tw12968528236829323050:Unit:=()
def tw12163292558409055459:Unit:=()
def tw1855578833992479148:Unit:=()
def tw9713889025567255231:Unit:=()
def tw7895907524942499640:Unit:=()
def tw12687991196536067662:Unit:=()
def tw16739039818264641307:Unit:=()
def tw2336709703789151280:Unit:=()
def tw17682781530159561434:Unit:=()
def tw12021889527977982701:Unit:=()
def tw691238826055680658:Unit:=()
def tw1080026652762113035:Unit:=()
def tw3003401416007681726:Unit:=()
def tw3306842341799294059:Unit:=()
def tw398189449397933779:Unit:=()
def tw11742366076505656212:Unit:=()
def tw5473610892184187505:Unit:=()
def tw2161576775862315704:Unit:=()
def tw15129406200169837321:Unit:=()
def tw18290053160736589783:Unit:=()
def tw17425953922630905025:Unit:=()
def tw5466941396695793105:Unit:=()
def tw14475006537979773781:Unit:=()
def tw12353819388632107626:Unit:=()
def tw8579328240407016879:Unit:=()
def tw9543281111965866321:Unit:=()
def tw17559698774647163227:Unit:=()
def tw10370783915407749370:Unit:=()
def tw3123360185465098019:Unit:=()
def tw18362518130920219472:Unit:=()
def tw17123891614692993103:Unit:=()
def tw11769634734476586620:Unit:=()
def tw6504099425548418714:Unit:=()
def tw18212749795999165158:Unit:=()
def tw16588109114613036828:Unit:=()
def tw4539657245960589537:Unit:=()
def tw14112895240182568321:Unit:=()
def tw17699007465013560560:Unit:=()
def tw12617634887470883907:Unit:=()
def tw10044181932655932460:Unit:=()
def tw3623889185649713974:Unit:=()
def tw15792277004281655739:Unit:=()
def tw1871367929188595310:Unit:=()
def tw11806648037351573787:Unit:=()
def tw14690433311038530618:Unit:=()
def tw8299815676031036495:Unit:=()
def tw67246992915829117:Unit:=()
def tw8255789275397577571:Unit:=()
def tw17585300594690880976:Unit:=()
def tw9690394107173286062:Unit:=()
def tw6622075517233473519:Unit:=()
def tw17461735777812788310:Unit:=()
def tw8743952120648093298:Unit:=()
def tw6246999611674452240:Unit:=()
def tw13094684369386887210:Unit:=()
def tw1001675085193399735:Unit:=()
def tw7755658854786059434:Unit:=()
def tw1363644509416316582:Unit:=()
def tw1149824079863490787:Unit:=()
def tw891091069420287514:Unit:=()
def tw11888764212109477947:Unit:=()
def tw2897149798371654845:Unit:=()
def tw3532425856915572085:Unit:=()
def tw5053978667665035658:Unit:=()
def tw11476975937547056408:Unit:=()
def tw3511614250067068786:Unit:=()
def tw3416598699697152661:Unit:=()
def tw15480232425494156624:Unit:=()
def tw9198209310681240417:Unit:=()
def tw1801873408535555420:Unit:=()
def tw16467510608082461225:Unit:=()
def tw8289649658703964221:Unit:=()
def tw3598143977655570581:Unit:=()
def tw13539669550572065116:Unit:=()
def tw10632372164737519158:Unit:=()
def tw18194149222911623939:Unit:=()
def tw3215885579670595406:Unit:=()
def tw14573589879683624446:Unit:=()
def tw10758914940774873971:Unit:=()
def tw5157268908021491356:Unit:=()
def tw16447532008447180473:Unit:=()
def tw9582067405077240669:Unit:=()
def tw9668764025770000229:Unit:=()
def tw10661147757880410233:Unit:=()
def tw16978426788418361616:Unit:=()
def tw7983471257275653904:Unit:=()
def tw6368643245685377307:Unit:=()
def tw4673219169305989404:Unit:=()
def tw2012648172354629790:Unit:=()
def tw4512769548458703479:Unit:=()
def tw14867817256608015193:Unit:=()
def tw406245913387556111:Unit:=()
def tw12086542770408067464:Unit:=()
def tw2362338837643563283:Unit:=()
def tw12721287447075544357:Unit:=()
def tw1416651586645148898:Unit:=()
def tw544860933221278143:Unit:=()
def tw9263621691273560830:Unit:=()
def tw6024783234942116009:Unit:=()
def tw4135481972291494097:Unit:=()
def tw10977753600322491285:Unit:=()
def tw17444442415195443277:Unit:=()
def tw3635930970794235525:Unit:=()
def tw6178501211905112315:Unit:=()
def tw4832567052653301357:Unit:=()
def tw7373132654441282787:Unit:=()
def tw10040782514692475378:Unit:=()
def tw12102467689226642763:Unit:=()
def tw10122085187836148285:Unit:=()
def tw14602466206818226914:Unit:=()
def tw17509036072047433027:Unit:=()
def tw3936035463165655715:Unit:=()
def tw14125466569314122592:Unit:=()
def tw16115159136057273484:Unit:=()
def tw8373387643989907529:Unit:=()
def tw7599107434794775674:Unit:=()
def tw4154142767260512730:Unit:=()
def tw2354982444801460570:Unit:=()
def tw10319332199542531080:Unit:=()
def tw11683117300958585488:Unit:=()
def tw17868098136999032187:Unit:=()
def tw1795053759951597029:Unit:=()
def tw11337454231599170709:Unit:=()
def tw16900593118508212943:Unit:=()
def tw11887727701367731110:Unit:=()
def tw8094176795740036921:Unit:=()
def tw2716387182223095106:Unit:=()
def tw3054580105560012310:Unit:=()
def tw5479266065013119317:Unit:=()
def tw10273579512952908769:Unit:=()
def tw12524931781678834900:Unit:=()
def tw8037084720090554243:Unit:=()
def tw1339175726706621867:Unit:=()
def tw18091387892906722159:Unit:=()
def tw5001467691387272774:Unit:=()
def tw16291350048812166302:Unit:=()
def tw7849220062732668152:Unit:=()
def tw16814053842294011085:Unit:=()
def tw16603179244716861759:Unit:=()
def tw11689700822051657738:Unit:=()
def tw17627923319917080820:Unit:=()
def tw6812864449423917668:Unit:=()
def tw4709686722917108416:Unit:=()
def tw16938890801162603711:Unit:=()
def tw16552019283699247188:Unit:=()
def tw12506178718641965832:Unit:=()
def tw15771149280560051796:Unit:=()
def tw12096070444363259685:Unit:=()
def tw16862966115329672797:Unit:=()
def tw11546876107112857519:Unit:=()
def tw833519837238566781:Unit:=()
def tw15180754209222609264:Unit:=()
def tw14924952483223358149:Unit:=()
def tw9197164836240516936:Unit:=()
def tw5582159237817982177:Unit:=()
def tw8854314081094605164:Unit:=()
def tw17985069363644200770:Unit:=()
def tw12819679045716364937:Unit:=()
def tw15146761695428540080:Unit:=()
def tw11141226040270372838:Unit:=()
def tw10169279715894907127:Unit:=()
def tw11537338443468881615:Unit:=()
def tw13386577712288802173:Unit:=()
def tw15153817012379214636:Unit:=()
def tw13160310089479504858:Unit:=()
def tw3307794599985259267:Unit:=()
def tw2368490241992068787:Unit:=()
def tw11127962536787596160:Unit:=()
def tw11711391464113915412:Unit:=()
def tw8833646019791593585:Unit:=()
def tw4228116440827732112:Unit:=()
def tw7996556172847163762:Unit:=()
def tw4925630800567492462:Unit:=()
def tw13677302584584663486:Unit:=()
def tw13752053297541478321:Unit:=()
def tw3293699448435373010:Unit:=()
def tw9740131216353412023:Unit:=()
def tw17495493700065192661:Unit:=()
def tw17450280385377376095:Unit:=()
def tw17062683525721581587:Unit:=()
def tw4798604024315497393:Unit:=()
def tw4540352832324503340:Unit:=()
def tw3010924765315985809:Unit:=()
def tw15603140828509657739:Unit:=()
def tw6725820292112069250:Unit:=()
def tw16404777865451158307:Unit:=()
def tw11609807626948865249:Unit:=()
end PySem.W.Fast
set_option maxRecDepth 100000 in
set_option maxHeartbeats 0 in
theorem PySem.Challenge.cw_ownshelf_k20_places_in_a_set_holds : PySem.Challenge.rw_ownshelf_k20_places_in_a_set.Holds := by
 w_on;o_law;k_head;(case hw=>w_witness2)
 k_fill
 refine F.law_walkT (l:=PySem.Challenge.rw_ownshelf_k20_places_in_a_set) (k:=132) (g:=Pg.g_law) (x:="_law_script") Pg.tabs rfl rfl ⟨rfl,by decide,by decide⟩ (by decide) (by decide) rfl Pg.law_ok ?F
 case F =>
   intro w mg fa h KX G hmg
   have hb_abs:mg "abs"=none:=by
     refine' PySem.W.mg_none_of KX G ?a_7;k_is
   have hb_bool:mg "bool"=none:=by
     refine' PySem.W.mg_none_of KX G ?a_8;k_is
   have hb_int:mg "int"=none:=by
     refine' PySem.W.mg_none_of KX G ?a_9;k_is
   have hb_isinstance:mg "isinstance"=none:=by
     refine' PySem.W.mg_none_of KX G ?a_10;k_is
   have hb_len:mg "len"=none:=by
     refine' PySem.W.mg_none_of KX G ?a_11;k_is
   have hb_list:mg "list"=none:=by
     refine' PySem.W.mg_none_of KX G ?a_12;k_is
   have hb_max:mg "max"=none:=by
     refine' PySem.W.mg_none_of KX G ?a_13;k_is
   have hb_range:mg "range"=none:=by
     refine' PySem.W.mg_none_of KX G ?a_14;k_is
   have hb_reversed:mg "reversed"=none:=by
     refine' PySem.W.mg_none_of KX G ?a_15;k_is
   have hb_sorted:mg "sorted"=none:=by
     refine' PySem.W.mg_none_of KX G ?a_16;k_is
   have hi_ABOUT:∃t,mg "ABOUT"=some (.int 1 t):=by
     refine' F.has_int KX G ?a_17;(case a_17=>k_is)
   have hi_AHEAD:∃t,mg "AHEAD"=some (.int 0 t):=by
     refine' F.has_int KX G ?a_18;(case a_18=>k_is)
   have hi_BACK:∃t,mg "BACK"=some (.int 8 t):=by
     refine' F.has_int KX G ?a_19;(case a_19=>k_is)
   have hi_BEHIND:∃t,mg "BEHIND"=some (.int 2 t):=by
     refine' F.has_int KX G ?a_20;(case a_20=>k_is)
   have hi_HEIGHT:∃t,mg "HEIGHT"=some (.int 6 t):=by
     refine' F.has_int KX G ?a_21;(case a_21=>k_is)
   have hi_LEFT:∃t,mg "LEFT"=some (.int 2 t):=by
     refine' F.has_int KX G ?a_22;(case a_22=>k_is)
   have hi_MIDDLE:∃t,mg "MIDDLE"=some (.int 1 t):=by
     refine' F.has_int KX G ?a_23;(case a_23=>k_is)
   have hi_MOST_THINGS:∃t,mg "MOST_THINGS"=some (.int 2000 t):=by
     refine' F.has_int KX G ?a_24;(case a_24=>k_is)
   have hi_RIGHT:∃t,mg "RIGHT"=some (.int 4 t):=by
     refine' F.has_int KX G ?a_25;(case a_25=>k_is)
   have hi_SIZE:∃t,mg "SIZE"=some (.int 5 t):=by
     refine' F.has_int KX G ?a_26;(case a_26=>k_is)
   have hi_THING:∃t,mg "THING"=some (.int 3 t):=by
     refine' F.has_int KX G ?a_27;(case a_27=>k_is)
   have hi_TOTAL:∃t,mg "TOTAL"=some (.int 7 t):=by
     refine' F.has_int KX G ?a_28;(case a_28=>k_is)
   have hi_TURNED:∃t,mg "TURNED"=some (.int 3 t):=by
     refine' F.has_int KX G ?a_29;(case a_29=>k_is)
   have hw_Wood_adding:F.Fld (L2.KOf KX) mg "Wood" "adding":=by
     refine' F.has_fld KX G ?aC_30 (F.has_cls KX G ?aC_30 ?pg_30 ?hd_30 ?po_30 ?sa_30) ?n_30;(case aC_30=>k_is);(case pg_30=>k_is);(case hd_30=>k_is);(case po_30=>k_is);(case sa_30=>k_is);(case n_30=>k_is)
   have hw_Wood_nodes_made:F.Fld (L2.KOf KX) mg "Wood" "nodes_made":=by
     refine' F.has_fld KX G ?aC_31 (F.has_cls KX G ?aC_31 ?pg_31 ?hd_31 ?po_31 ?sa_31) ?n_31;(case aC_31=>k_is);(case pg_31=>k_is);(case hd_31=>k_is);(case po_31=>k_is);(case sa_31=>k_is);(case n_31=>k_is)
   have hf_Wood___init__:F.HasMk (L2.KOf KX) mg "Wood" "Wood.__init__" Pg.s_Wood___init__ 1:=by
     refine' F.has_mk1 KX G ?aC_32 ?mk_32 ?kc_32 ?a_32 ?i_32 ?l_32 ?c_32 ?k_32 ?t_32;(case aC_32=>k_is);(case mk_32=>k_is);(case kc_32=>k_is);(case a_32=>k_is);(case i_32=>k_is);(case l_32=>k_is);(case c_32=>k_is);(case k_32=>k_is);(case t_32=>k_is)
   have hf__law_key:F.HasDef (L2.KOf KX) mg "_law_key" Pg.s__law_key 0:=by
     refine' F.has_def KX G ?a_33 ?l_33 ?c_33 ?k_33;(case a_33=>k_is);(case l_33=>k_is);(case c_33=>k_is);(case k_33=>k_is)
   have hf_check_place:F.HasDef (L2.KOf KX) mg "check_place" Pg.s_check_place 0:=by
     refine' F.has_def KX G ?a_34 ?l_34 ?c_34 ?k_34;(case a_34=>k_is);(case l_34=>k_is);(case c_34=>k_is);(case k_34=>k_is)
   have hf_size:F.HasDef (L2.KOf KX) mg "size" Pg.s_size 0:=by
     refine' F.has_def KX G ?a_35 ?l_35 ?c_35 ?k_35;(case a_35=>k_is);(case l_35=>k_is);(case c_35=>k_is);(case k_35=>k_is)
   have hf_seen:F.HasDef (L2.KOf KX) mg "seen" Pg.s_seen 0:=by
     refine' F.has_def KX G ?a_36 ?l_36 ?c_36 ?k_36;(case a_36=>k_is);(case l_36=>k_is);(case c_36=>k_is);(case k_36=>k_is)
   have hf_thing_at:F.HasDef (L2.KOf KX) mg "thing_at" Pg.s_thing_at 0:=by
     refine' F.has_def KX G ?a_37 ?l_37 ?c_37 ?k_37;(case a_37=>k_is);(case l_37=>k_is);(case c_37=>k_is);(case k_37=>k_is)
   have hf_at:F.HasDef (L2.KOf KX) mg "at" Pg.s_at 0:=by
     refine' F.has_def KX G ?a_38 ?l_38 ?c_38 ?k_38;(case a_38=>k_is);(case l_38=>k_is);(case c_38=>k_is);(case k_38=>k_is)
   have hf_is_alike_at:F.HasDef (L2.KOf KX) mg "is_alike_at" Pg.s_is_alike_at 0:=by
     refine' F.has_def KX G ?a_39 ?l_39 ?c_39 ?k_39;(case a_39=>k_is);(case l_39=>k_is);(case c_39=>k_is);(case k_39=>k_is)
   have hf_count_before:F.HasDef (L2.KOf KX) mg "count_before" Pg.s_count_before 0:=by
     refine' F.has_def KX G ?a_40 ?l_40 ?c_40 ?k_40;(case a_40=>k_is);(case l_40=>k_is);(case c_40=>k_is);(case k_40=>k_is)
   have hf_place_of:F.HasDef (L2.KOf KX) mg "place_of" Pg.s_place_of 0:=by
     refine' F.has_def KX G ?a_41 ?l_41 ?c_41 ?k_41;(case a_41=>k_is);(case l_41=>k_is);(case c_41=>k_is);(case k_41=>k_is)
   have hf_has:F.HasDef (L2.KOf KX) mg "has" Pg.s_has 0:=by
     refine' F.has_def KX G ?a_42 ?l_42 ?c_42 ?k_42;(case a_42=>k_is);(case l_42=>k_is);(case c_42=>k_is);(case k_42=>k_is)
   have hf__law_asked:F.HasDef (L2.KOf KX) mg "_law_asked" Pg.s__law_asked 0:=by
     refine' F.has_def KX G ?a_43 ?l_43 ?c_43 ?k_43;(case a_43=>k_is);(case l_43=>k_is);(case c_43=>k_is);(case k_43=>k_is)
   have hf__law_cell:F.HasDef (L2.KOf KX) mg "_law_cell" Pg.s__law_cell 0:=by
     refine' F.has_def KX G ?a_44 ?l_44 ?c_44 ?k_44;(case a_44=>k_is);(case l_44=>k_is);(case c_44=>k_is);(case k_44=>k_is)
   have hf_Wood_numbered:F.HasMth (L2.KOf KX) mg "Wood" "numbered" "Wood.numbered" Pg.s_Wood_numbered:=by
     refine' F.has_mth KX G ?aC_45 (F.has_cls KX G ?aC_45 ?pg_45 ?hd_45 ?po_45 ?sa_45) ?a_45 ?i_45 ?l_45 ?c_45 ?k_45;(case aC_45=>k_is);(case pg_45=>k_is);(case hd_45=>k_is);(case po_45=>k_is);(case sa_45=>k_is);(case a_45=>k_is);(case i_45=>k_is);(case l_45=>k_is);(case c_45=>k_is);(case k_45=>k_is)
   have hf_back:F.HasDef (L2.KOf KX) mg "back" Pg.s_back 0:=by
     refine' F.has_def KX G ?a_46 ?l_46 ?c_46 ?k_46;(case a_46=>k_is);(case l_46=>k_is);(case c_46=>k_is);(case k_46=>k_is)
   have hf_height:F.HasDef (L2.KOf KX) mg "height" Pg.s_height 0:=by
     refine' F.has_def KX G ?a_47 ?l_47 ?c_47 ?k_47;(case a_47=>k_is);(case l_47=>k_is);(case c_47=>k_is);(case k_47=>k_is)
   have hf_total:F.HasDef (L2.KOf KX) mg "total" Pg.s_total 0:=by
     refine' F.has_def KX G ?a_48 ?l_48 ?c_48 ?k_48;(case a_48=>k_is);(case l_48=>k_is);(case c_48=>k_is);(case k_48=>k_is)
   have hf_Wood_turned:F.HasMth (L2.KOf KX) mg "Wood" "turned" "Wood.turned" Pg.s_Wood_turned:=by
     refine' F.has_mth KX G ?aC_49 (F.has_cls KX G ?aC_49 ?pg_49 ?hd_49 ?po_49 ?sa_49) ?a_49 ?i_49 ?l_49 ?c_49 ?k_49;(case aC_49=>k_is);(case pg_49=>k_is);(case hd_49=>k_is);(case po_49=>k_is);(case sa_49=>k_is);(case a_49=>k_is);(case i_49=>k_is);(case l_49=>k_is);(case c_49=>k_is);(case k_49=>k_is)
   have hf_check_room:F.HasDef (L2.KOf KX) mg "check_room" Pg.s_check_room 0:=by
     refine' F.has_def KX G ?a_50 ?l_50 ?c_50 ?k_50;(case a_50=>k_is);(case l_50=>k_is);(case c_50=>k_is);(case k_50=>k_is)
   have hf_height_above:F.HasDef (L2.KOf KX) mg "height_above" Pg.s_height_above 0:=by
     refine' F.has_def KX G ?a_51 ?l_51 ?c_51 ?k_51;(case a_51=>k_is);(case l_51=>k_is);(case c_51=>k_is);(case k_51=>k_is)
   have hf_in_balance:F.HasDef (L2.KOf KX) mg "in_balance" Pg.s_in_balance 0:=by
     refine' F.has_def KX G ?a_52 ?l_52 ?c_52 ?k_52;(case a_52=>k_is);(case l_52=>k_is);(case c_52=>k_is);(case k_52=>k_is)
   have hf_size_above:F.HasDef (L2.KOf KX) mg "size_above" Pg.s_size_above 0:=by
     refine' F.has_def KX G ?a_53 ?l_53 ?c_53 ?k_53;(case a_53=>k_is);(case l_53=>k_is);(case c_53=>k_is);(case k_53=>k_is)
   have hf_backward_sum:F.HasDef (L2.KOf KX) mg "backward_sum" Pg.s_backward_sum 0:=by
     refine' F.has_def KX G ?a_54 ?l_54 ?c_54 ?k_54;(case a_54=>k_is);(case l_54=>k_is);(case c_54=>k_is);(case k_54=>k_is)
   have hf_onward_sum:F.HasDef (L2.KOf KX) mg "onward_sum" Pg.s_onward_sum 0:=by
     refine' F.has_def KX G ?a_55 ?l_55 ?c_55 ?k_55;(case a_55=>k_is);(case l_55=>k_is);(case c_55=>k_is);(case k_55=>k_is)
   have hf_sums_above:F.HasDef (L2.KOf KX) mg "sums_above" Pg.s_sums_above 0:=by
     refine' F.has_def KX G ?a_56 ?l_56 ?c_56 ?k_56;(case a_56=>k_is);(case l_56=>k_is);(case c_56=>k_is);(case k_56=>k_is)
   have hf_Wood_node:F.HasMth (L2.KOf KX) mg "Wood" "node" "Wood.node" Pg.s_Wood_node:=by
     refine' F.has_mth KX G ?aC_57 (F.has_cls KX G ?aC_57 ?pg_57 ?hd_57 ?po_57 ?sa_57) ?a_57 ?i_57 ?l_57 ?c_57 ?k_57;(case aC_57=>k_is);(case pg_57=>k_is);(case hd_57=>k_is);(case po_57=>k_is);(case sa_57=>k_is);(case a_57=>k_is);(case i_57=>k_is);(case l_57=>k_is);(case c_57=>k_is);(case k_57=>k_is)
   have hf_built:F.HasDef (L2.KOf KX) mg "built" Pg.s_built 0:=by
     refine' F.has_def KX G ?a_58 ?l_58 ?c_58 ?k_58;(case a_58=>k_is);(case l_58=>k_is);(case c_58=>k_is);(case k_58=>k_is)
   have hf_make_of:F.HasDef (L2.KOf KX) mg "make_of" Pg.s_make_of 0:=by
     refine' F.has_def KX G ?a_59 ?l_59 ?c_59 ?k_59;(case a_59=>k_is);(case l_59=>k_is);(case c_59=>k_is);(case k_59=>k_is)
   have hf_check_stretch:F.HasDef (L2.KOf KX) mg "check_stretch" Pg.s_check_stretch 0:=by
     refine' F.has_def KX G ?a_60 ?l_60 ?c_60 ?k_60;(case a_60=>k_is);(case l_60=>k_is);(case c_60=>k_is);(case k_60=>k_is)
   have hf_parts:F.HasDef (L2.KOf KX) mg "parts" Pg.s_parts 0:=by
     refine' F.has_def KX G ?a_61 ?l_61 ?c_61 ?k_61;(case a_61=>k_is);(case l_61=>k_is);(case c_61=>k_is);(case k_61=>k_is)
   have hf_lifted_left:F.HasDef (L2.KOf KX) mg "lifted_left" Pg.s_lifted_left 0:=by
     refine' F.has_def KX G ?a_62 ?l_62 ?c_62 ?k_62;(case a_62=>k_is);(case l_62=>k_is);(case c_62=>k_is);(case k_62=>k_is)
   have hf_lifted_right:F.HasDef (L2.KOf KX) mg "lifted_right" Pg.s_lifted_right 0:=by
     refine' F.has_def KX G ?a_63 ?l_63 ?c_63 ?k_63;(case a_63=>k_is);(case l_63=>k_is);(case c_63=>k_is);(case k_63=>k_is)
   have hf_balanced:F.HasDef (L2.KOf KX) mg "balanced" Pg.s_balanced 0:=by
     refine' F.has_def KX G ?a_64 ?l_64 ?c_64 ?k_64;(case a_64=>k_is);(case l_64=>k_is);(case c_64=>k_is);(case k_64=>k_is)
   have hf_joined:F.HasDef (L2.KOf KX) mg "joined" Pg.s_joined 0:=by
     refine' F.has_def KX G ?a_65 ?l_65 ?c_65 ?k_65;(case a_65=>k_is);(case l_65=>k_is);(case c_65=>k_is);(case k_65=>k_is)
   have hf_cut_ahead:F.HasDef (L2.KOf KX) mg "cut_ahead" Pg.s_cut_ahead 0:=by
     refine' F.has_def KX G ?a_66 ?l_66 ?c_66 ?k_66;(case a_66=>k_is);(case l_66=>k_is);(case c_66=>k_is);(case k_66=>k_is)
   have hf_laid_together:F.HasDef (L2.KOf KX) mg "laid_together" Pg.s_laid_together 0:=by
     refine' F.has_def KX G ?a_67 ?l_67 ?c_67 ?k_67;(case a_67=>k_is);(case l_67=>k_is);(case c_67=>k_is);(case k_67=>k_is)
   have hf_taken_out:F.HasDef (L2.KOf KX) mg "taken_out" Pg.s_taken_out 0:=by
     refine' F.has_def KX G ?a_68 ?l_68 ?c_68 ?k_68;(case a_68=>k_is);(case l_68=>k_is);(case c_68=>k_is);(case k_68=>k_is)
   have hf_turned_part:F.HasDef (L2.KOf KX) mg "turned_part" Pg.s_turned_part 0:=by
     refine' F.has_def KX G ?a_69 ?l_69 ?c_69 ?k_69;(case a_69=>k_is);(case l_69=>k_is);(case c_69=>k_is);(case k_69=>k_is)
   have hf__law_set:F.HasDef (L2.KOf KX) mg "_law_set" Pg.s__law_set 0:=by
     refine' F.has_def KX G ?a_70 ?l_70 ?c_70 ?k_70;(case a_70=>k_is);(case l_70=>k_is);(case c_70=>k_is);(case k_70=>k_is)
   have hf__law_thing:F.HasDef (L2.KOf KX) mg "_law_thing" Pg.s__law_thing 0:=by
     refine' F.has_def KX G ?a_71 ?l_71 ?c_71 ?k_71;(case a_71=>k_is);(case l_71=>k_is);(case c_71=>k_is);(case k_71=>k_is)
   have hf__law_some:F.HasDef (L2.KOf KX) mg "_law_some" Pg.s__law_some 0:=by
     refine' F.has_def KX G ?a_72 ?l_72 ?c_72 ?k_72;(case a_72=>k_is);(case l_72=>k_is);(case c_72=>k_is);(case k_72=>k_is)
   have hf_gather:F.HasDef (L2.KOf KX) mg "gather" Pg.s_gather 0:=by
     refine' F.has_def KX G ?a_73 ?l_73 ?c_73 ?k_73;(case a_73=>k_is);(case l_73=>k_is);(case c_73=>k_is);(case k_73=>k_is)
   have hf_things_of:F.HasDef (L2.KOf KX) mg "things_of" Pg.s_things_of 0:=by
     refine' F.has_def KX G ?a_74 ?l_74 ?c_74 ?k_74;(case a_74=>k_is);(case l_74=>k_is);(case c_74=>k_is);(case k_74=>k_is)
   have hf_law:F.HasDef (L2.KOf KX) mg "law" Pg.s_law 0:=by
     refine' F.has_def KX G ?a_75 ?l_75 ?c_75 ?k_75;(case a_75=>k_is);(case l_75=>k_is);(case c_75=>k_is);(case k_75=>k_is)
   obtain ⟨fa',fd,hm,hb,hF⟩:=Pg.law_all (P:=(PySem.Challenge.rw_ownshelf_k20_places_in_a_set).prog) (w:=w) (fun base hB=>⟨hb_abs,hb_bool,hb_int,hb_isinstance,hb_len,hb_list,hb_max,hb_range,hb_reversed,hb_sorted,hi_ABOUT,hi_AHEAD,hi_BACK,hi_BEHIND,hi_HEIGHT,hi_LEFT,hi_MIDDLE,hi_MOST_THINGS,hi_RIGHT,hi_SIZE,hi_THING,hi_TOTAL,hi_TURNED,hw_Wood_adding,hw_Wood_nodes_made,hB,hf_Wood___init__,hf__law_key,hf_check_place,hf_size,hf_seen,hf_thing_at,hf_at,hf_is_alike_at,hf_count_before,hf_place_of,hf_has,hf__law_asked,hf__law_cell,hf_Wood_numbered,hf_back,hf_height,hf_total,hf_Wood_turned,hf_check_room,hf_height_above,hf_in_balance,hf_size_above,hf_backward_sum,hf_onward_sum,hf_sums_above,hf_Wood_node,hf_built,hf_make_of,hf_check_stretch,hf_parts,hf_lifted_left,hf_lifted_right,hf_balanced,hf_joined,hf_cut_ahead,hf_laid_together,hf_taken_out,hf_turned_part,hf__law_set,hf__law_thing,hf__law_some,hf_gather,hf_things_of,hf_law⟩) hf_law
   have e:=hmg.symm.trans hm
   cases e
   refine ⟨fun i p Q e1 e2=>?_,fd,hb,fun base _ _ hB=>hF base hB⟩
   match i,e1,e2 with
   | 0,e1,e2 =>
     cases e1;cases e2
     refine' F.has_tab (st:=Pg.s__law_asked) KX G ?ta0_77 ?tl0_77 ?tz0_77;(case ta0_77=>k_is);(case tl0_77=>k_is);(case tz0_77=>kernel_rfl)
   | 1,e1,e2 =>
     cases e1;cases e2
     refine' F.has_tab (st:=Pg.s__law_some) KX G ?ta1_77 ?tl1_77 ?tz1_77;(case ta1_77=>k_is);(case tl1_77=>k_is);(case tz1_77=>kernel_rfl)
   | i + 2,e1,_=>cases e1

