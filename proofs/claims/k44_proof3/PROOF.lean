import PyProof.Rows.All
import Wide.All
import OpenK.AllK
import Wide.FinOn
import Lean
import PyProof.EqAt
import PyProof.EqKinds
import PyProof.TupleCall
import PyProof.DictWalks
import PyProof.ExcAttrAll.ValueError
import PyProof.ExcBaseAll.ValueError
import PyProof.ZipIter
import PyProof.SumWalk
import PyProof.Rows.SortShellK
import PyProof.Rows.SortStr
import PyProof.DictKinds
import PyProof.Rows.CallKwBuiltin
import PyProof.ExcInit
import PyProof.ExcClass2
import PyProof.InstStoreFacts
import PyProof.ReprRoads
import PySem.Challenge.RW_ownshelf_k44_whole_walkers_together
set_option Elab.async false
set_option linter.all false
set_option maxRecDepth 100000
set_option maxHeartbeats 8000000
set_option compiler.extract_closed false
set_option compiler.reuse false
set_option bootstrap.genMatcherCode false
abbrev zFr:=PySem.W.Frag
abbrev zLA:=List (PySem.Str×PySem.Addr)
abbrev zAO:=List (PySem.Addr×PySem.Obj)
abbrev zVP:=PySem.Value->PySem.Shared->Prop
abbrev zMg:=PySem.Str->Option PySem.Value
abbrev z4y:=@List.getElem?_eq_some_iff
abbrev z4z:=@Nat.le_of_ble_eq_true
abbrev z40:=@PySem.wpAny_bind
abbrev z41:=@List.length_append
abbrev z42:=@PySem.Heap.get?_push_of_some
abbrev z43:=@List.getElem?_set_ne
abbrev z44:=@List.getElem?_eq_getElem
abbrev z45:=@Nat.le_refl
abbrev z46:=@List.size_toArray
abbrev z47:=@decide_eq_false
abbrev z48:=@Nat.lt_of_lt_of_le
abbrev z49:=@decide_eq_true
abbrev z5a:=@List.length_set
abbrev z5b:=@decide_eq_true_eq
abbrev z5c:=@PySem.Heap.lt_size
abbrev z5d:=@List.mem_cons_of_mem
abbrev z5e:=@PySem.wpAny_pure
abbrev z5f:=@List.mem_append_right
abbrev z5g:=@List.length_take
abbrev z5h:=@List.getElem?_append_left
abbrev z5i:=@List.mem_singleton
abbrev z5j:=@List.getElem?_append_right
abbrev z5k:=@Bool.and_eq_true
abbrev z5l:=@if_neg
abbrev z5m:=@List.getElem?_set_self
abbrev z5n:=@Nat.ne_of_lt
abbrev z5o:=@if_pos
abbrev z5p:=@Nat.le_trans
abbrev z5q:=@PySem.Heap.get?_update_other
abbrev z5r:=@List.length_drop
abbrev z5s:=@Option.some.inj
abbrev z5t:=@Nat.zero_le
abbrev z5u:=@PySem.Heap.get?_push_size
abbrev z5v:=@List.map_cons
abbrev z5w:=@List.mem_cons_self
abbrev z5x:=@Ne.symm
abbrev z5y:=@List.append_nil
abbrev z5z:=@List.mem_cons
abbrev z50:=@List.getElem?_map
abbrev z51:=@List.all_eq_true
abbrev z52:=@PySem.Heap.get?_update_self
abbrev z53:=@List.mem_of_mem_take
abbrev z54:=@Int.emod_lt_of_pos
abbrev z55:=@PySem.sizeLine_eq
abbrev z56:=@List.length_pos_iff
abbrev z57:=@Array.getElem?_eq_some_iff
abbrev z58:=@Bool.false_ne_true
abbrev z59:=@Bool.false_eq_true
abbrev z6a:=@Nat.le_add_right
abbrev z6b:=@List.length_map
abbrev z6c:=@PySem.Obj.data_mapFields
abbrev z6d:=@Int.emod_nonneg
abbrev z6e:=@PySem.W.mg_none_of
abbrev z6f:=@PySem.Heap.get?_none_of_le
abbrev z6g:=@List.set_append_left
abbrev z6h:=@decide_eq_decide
abbrev z6i:=@PySem.wpAny_truthy_bool
abbrev z6j:=@List.length_reverse
abbrev z6k:=@Nat.lt_irrefl
abbrev z6l:=@List.drop_eq_getElem_cons
abbrev z6m:=@List.mem_append
abbrev z6n:=@beq_iff_eq
abbrev z6o:=@PySem.wpAny_Call_Name_kw
abbrev z6p:=@Option.isSome_iff_exists
abbrev z6q:=@List.getElem?_take_of_lt
abbrev z6r:=@PySem.wpAny_execs_cons
abbrev z6s:=@decide_eq_false_iff_not
abbrev z6t:=@Nat.le_of_lt
abbrev z6u:=@PyProof.Rows.callWith_type1
abbrev z6v:=@List.cons.injEq
abbrev z6w:=@congrArg
abbrev z6x:=@PySem.W.mg_of
abbrev z6y:=@PySem.Obj.isFreed_of_fields
abbrev z6z:=@List.mem_append_left
abbrev z60:=@List.mem_of_getElem?
abbrev z61:=@PyProof.Rows.slot_tuple_getitem
abbrev z62:=@PySem.wpAny_newObj_type
abbrev z63:=@PySem.mem_of_lookup
abbrev z64:=@if_true
abbrev z65:=@Nat.lt_of_le_of_lt
abbrev z66:=@PySem.codeAny_handlers_test
abbrev z67:=@of_decide_eq_true
abbrev z68:=@PySem.F.excBase_ValueError
abbrev z69:=@if_false
abbrev z7a:=@List.getElem_mem
abbrev z7b:=@beq_eq_false_iff_ne
abbrev z7c:=@Nat.le_succ
abbrev z7d:=@PySem.wpAny_field
abbrev z7e:=@PySem.wpAny_handleBy_cons
abbrev z7f:=@PySem.F.args_tuple_add_2
abbrev z7g:=@Array.findIdx?_eq_some_iff_getElem
abbrev z7h:=@PySem.wpAny_execs_nil
abbrev z7i:=@PySem.wpAny_standAt
abbrev z7j:=@PySem.wpAny_passesOwn
abbrev z7k:=@PySem.Calls.spliced_cons
abbrev z7l:=@PySem.W.callWith_K
abbrev z7m:=@PySem.F.entry_tuple_add
abbrev z7n:=@Nat.add_sub_cancel_left
abbrev z7o:=@List.eraseIdx_append_of_length_le
abbrev z7p:=@Bool.true_and
abbrev z7q:=@Array.all_eq_true_iff_forall_mem
abbrev z7r:=@PySem.F.slot_tuple_add
abbrev z7s:=@List.drop_eq_nil_of_le
abbrev z7t:=@PySem.wpAny_mono
abbrev z7u:=@PySem.plainObj_wpAny_Assign_Attribute
abbrev z7v:=@List.reverse_cons
abbrev z7w:=@Option.some.injEq
abbrev z7x:=@PySem.codeAny_mono
abbrev z7y:=@PySem.W.methodCall_KW
abbrev z7z:=@Nat.lt_or_ge
abbrev z70:=@List.set_append_right
abbrev z71:=@Bool.and_eq_false_iff
abbrev z72:=@List.mem_reverse
abbrev z73:=@List.drop_append_of_le_length
abbrev z74:=@PySem.Calls.evalArgs_plain
abbrev z75:=@Bool.and_eq_true_iff
abbrev z76:=@PySem.codeAny_call_builtin
abbrev z77:=@PySem.wpAny_call
abbrev z78:=@PySem.W.plainGet_of
abbrev z79:=@PySem.W.callWith_K0
abbrev z8a:=@List.nodup_cons
abbrev z8b:=@PySem.F.attrBase_ValueError
abbrev z8c:=@Nat.le_add_left
abbrev z8d:=@Nat.not_lt_zero
abbrev z8e:=@Nat.min_eq_left
abbrev z8f:=@List.length_eraseIdx_of_lt
abbrev z8g:=@Nat.ne_of_gt
abbrev z8h:=@Array.find?_toList
abbrev z8i:=@List.set_set
abbrev z8j:=@PySem.wpAny_loadPart
abbrev z8k:=@PySem.Heap.size_push
abbrev z8l:=@PySem.wpAny_setField
abbrev z8m:=@List.getElem?_inj
abbrev z8n:=@List.ext_getElem?
abbrev z8o:=@PySem.strLen_append
abbrev z8p:=@Bool.and_true
abbrev z8q:=@Nat.lt_succ_self
abbrev z8r:=@List.not_mem_nil
abbrev z8s:=@Nat.succ_le_succ
abbrev z8t:=@List.drop_length
abbrev z8u:=@Bool.not_eq_true
abbrev z8v:=@Nat.le_of_eq
abbrev z8w:=@List.of_mem_zip
abbrev z8x:=@PySem.concat_meets
abbrev z8y:=@List.map_nil
abbrev z8z:=@Bool.or_eq_true
abbrev z80:=@List.mem_map
abbrev z81:=@Int.add_zero
abbrev z82:=@Nat.not_lt
abbrev z83:=@Bool.false_and
abbrev z84:=@List.nodup_nil
abbrev z85:=@List.take_left
noncomputable section
namespace L2
open PySem PySem.Spec PyProof.Rows
abbrev Key:=Sum Int Str
def zyz:Key->Value->Bool
 | .inl k,v=>Value.isInt k v
 | .inr x,v=>Value.isStrOf x v
def z4j(w:World):Key->Int
 | .inl k=>hashInt k
 | .inr x=>hashStr w x
theorem xg:∀{k:Key}{v:Value},zyz k v=true->(∃i t,k=Sum.inl i/\v=Value.int i t)\/(∃x t,k=Sum.inr x/\v=Value.str x t)
 | .inl i,v,h=>by obtain⟨t,e⟩:=Value.isInt_shape (k:=i) (v:=v) h;exact .inl ⟨i,t,rfl,e⟩
 | .inr x,v,h=>by obtain⟨t,e⟩:=Value.isStrOf_shape (x:=x) (v:=v) h;exact .inr ⟨x,t,rfl,e⟩
theorem zyy(a b:Int):decide ((Sum.inl a:Key)=Sum.inl b)=(a==b):=by
 by_cases e:a=b
 · subst e;simp
 · have h:¬ (Sum.inl a:Key)=Sum.inl b:=fun q=>e (Sum.inl.inj q);rw[z47 h];exact(z7b.mpr e).symm
theorem zyv(a b:Str):decide ((Sum.inr a:Key)=Sum.inr b)=decide (a=b):=by
 by_cases e:a=b
 · subst e;simp
 · have h:¬ (Sum.inr a:Key)=Sum.inr b:=fun q=>e (Sum.inr.inj q);rw[z47 h,z47 e]
theorem zyx(a:Int)(b:Str):decide ((Sum.inl a:Key)=Sum.inr b)=false:=z47 (fun q=>nomatch q)
theorem zyw(a:Str)(b:Int):decide ((Sum.inr a:Key)=Sum.inl b)=false:=z47 (fun q=>nomatch q)
def zn7(prog:Program)(w:World):PySem.KeyKind prog w Key where
 is:=zyz
 hash:=z4j w
 inj:=fun v a b ha hb=>by
   rcases xg ha with⟨i,t,rfl,rfl⟩ | ⟨x,t,rfl,rfl⟩
   · rcases xg hb with⟨j,u,rfl,e⟩ | ⟨y,u,rfl,e⟩
     · injection e with e1 _;rw[e1]
     · exact nomatch e
   · rcases xg hb with⟨j,u,rfl,e⟩ | ⟨y,u,rfl,e⟩
     · exact nomatch e
     · injection e with e1 _;rw[e1]
 byValue:=fun k v h=>by rcases xg h with⟨i,t,rfl,rfl⟩ | ⟨x,t,rfl,rfl⟩<;>rfl
 pyHash:=fun hv h=>by
   rcases xg hv with⟨i,t,rfl,rfl⟩ | ⟨x,t,rfl,rfl⟩
   · exact wpAny_pyHash_int h
   · exact wpAny_pyHash_str h
 eqBool:=fun hu hv h=>by
   rcases xg hu with⟨i,t,rfl,rfl⟩ | ⟨x,t,rfl,rfl⟩
   · rcases xg hv with⟨j,u,rfl,rfl⟩ | ⟨y,u,rfl,rfl⟩
     · rw[zyy]at h;exact wpAny_eqBool_int h
     · rw[zyx]at h;exact SeqAt.EqAt.int_str i t y u _ _ _ _ h
   · rcases xg hv with⟨j,u,rfl,rfl⟩ | ⟨y,u,rfl,rfl⟩
     · rw[zyw]at h;exact SeqAt.EqAt.str_int x t j u _ _ _ _ h
     · rw[zyv]at h;exact wpAny_eqBool_str h
 «strs»:=fun k x t v h=>by
   rcases xg h with⟨i,u,rfl,e⟩ | ⟨y,u,rfl,e⟩
   · exact nomatch e
   · injection e with e1 _;subst e1;cases v<;>rfl
inductive V where
 |non | bl (b:Bool) | int (i:Int) | str (x:Str) | byt (b:Array UInt8) | flt (b:UInt64) | ref (a:Addr) | ty (n:String)
 deriving DecidableEq
def RelV:V->Value->Prop
 | .non,u=>u=Value.none
 | .bl b,u=>u=Value.bool b
 | .int i,u=>∃t,u=Value.int i t
 | .str x,u=>∃t,u=Value.str x t
 | .byt b,u=>∃t,u=Value.bytes b t
 | .flt b,u=>∃t,u=Value.float b t
 | .ref a,u=>u=Value.ref a
 | .ty n,u=>u=Value.type n
abbrev Vals:List V->List Value->Prop:=Paired RelV
theorem Vals.length{xs:List V}{us:List Value}(r:Vals xs us):xs.length=us.length:=Paired.length r
theorem Vals.get:∀{xs:List V}{us:List Value}{i:Nat}{x:V},Vals xs us->xs[i]? = some x->∃u,us[i]? = some u/\RelV x u
 |_,_,_,_,.nil,e=>by simp at e
 |_,_,0,_,.cons r _,e=>by simp at e;subst e;exact⟨_,rfl,r⟩
 | _,_,i+1,x,.cons _ t,e=>by obtain⟨u,h1,h2⟩:=Vals.get (i:=i) (x:=x) t (by simpa using e);exact⟨u,by simpa using h1,h2⟩
theorem Vals.set{x:V}{u:Value}(r:RelV x u):∀{xs:List V}{us:List Value} (i:Nat),Vals xs us->Vals (xs.set i x) (us.set i u)
 |_,_,_,.nil=>.nil
 |_,_,0,.cons _ t=>.cons r t
 |_,_,i+1,.cons q t=>.cons q (Vals.set r i t)
theorem Vals.append:∀{xs ys:List V}{us ws:List Value},Vals xs us->Vals ys ws->Vals (xs++ys) (us++ws)
 |_,_,_,_,.nil,s=>s
 |_,_,_,_,.cons r t,s=>.cons r (Vals.append t s)
theorem Vals.take:∀{xs:List V}{us:List Value} (n:Nat),Vals xs us->Vals (xs.take n) (us.take n)
 |_,_,0,_=>.nil
 |_,_,_+1,.nil=>.nil
 |_,_,n+1,.cons r t=>.cons r (Vals.take n t)
theorem Vals.drop:∀{xs:List V}{us:List Value} (n:Nat),Vals xs us->Vals (xs.drop n) (us.drop n)
 |_,_,0,r=>r
 |_,_,_+1,.nil=>.nil
 |_,_,n+1,.cons _ t=>Vals.drop n t
def RelO:Option V->Option Value->Prop
 |some v,some u=>RelV v u
 |none,none=>True
 |_,_=>False
def KV{κ:Type}:List (κ×V)->List (κ×Value)->Prop:=Paired fun(p:κ×V) (q:κ×Value)=>p.1=q.1/\RelV p.2 q.2
def kV:Key->V
 | .inl i=>.int i
 | .inr x=>.str x
inductive HO where
   |lst (xs:List V)
   |tup (xs:List V)
   |dK (kvs:List (Key×V)) | dT (kvs:List (List Key×V))
   |set (S:Int->Bool) (n:Nat)
   |ins (C dx:Addr) (fs:List (Str×V))
   |own (x:Addr)
   |xd (fs:List (Str×V))
   |met (f x:Addr)
   |rng (lo hi:Int)
   |frz (o:Obj) (u:HO)
   |tbl (ps:Array Value)
   |ext (φ:Heap->Prop)
abbrev Hp:=Addr->Option HO
def upd(H:Hp)(a:Addr)(o:HO):Hp:=fun b=>if b=a then some o else H b
theorem jh{H:Hp}{a:Addr}{o:HO}:upd H a o a=some o:=by unfold upd;rw[z5o rfl]
theorem zz{H:Hp}{a b:Addr}{o:HO}(h:b≠a):upd H a o b=H b:=by unfold upd;rw[z5l h]
theorem qh{H:Hp}{a b:Addr}{o:HO}(h:H a=some o)(h':H b=none):a≠b:=by intro e;subst e;rw[h]at h';cases h'
section
variable (P:Program) (w:World)
def ObjOk(H:Hp)(h:Heap)(a:Addr):HO->Prop
 | .lst xs=>xs.length<=sizeLine/\∃(its:List Value) (n:Nat),Vals xs its/\h.get? a=some { cls:=.type "list",data:=.seq its.toArray n }
 | .tup xs=>xs.length<=sizeLine/\∃its:List Value,Vals xs its/\IsTup h a its.toArray
 | .dK kvs=>kvs.length<=sizeLine/\(a==sysModules)=false/\∃vs,KV kvs vs/\h.DictOf (zn7 P w) a vs
 | .dT kvs=>kvs.length<=sizeLine/\(a==sysModules)=false/\∃xs:List (List Key×Addr×Value),
     Paired (fun(p:List Key×V) (q:List Key×Addr×Value)=>p.1=q.1/\H q.2.1=some (.tup (p.1.map kV))/\RelV p.2 q.2.2) kvs xs /\
     ∃o es ep,h.get? a=some o/\o.ExactDict/\o.data=.dict es ep/\es.toList=xs.map (entryOfKey (tupleKind (zn7 P w)))/\(xs.map (·.1)).Nodup
 | .set S n=>h.SetOf (intKind P w) a S n
 | .ins C dx fs=>H dx=some (.own a)/\fs.length<=1000/\dx≠a/\h.get? a=some (PySem.W.instObj C dx) /\
     ∃mA,h.Ns1 dx mA/\(∀f,RelO (fs.lookup f) (mA f))/\PySem.Within mA (fs.map (·.1))
 | .own _=>∃o,h.get? a=some o
 | .xd fs=>∃mA,h.Ns1 a mA/\∀f,RelO (fs.lookup f) (mA f)
 | .rng lo hi=>∃t u v,h.get? a=some { cls:=.type "range",data:=.fields #[.int lo t,.int hi u,.int 1 v] }
 | .frz o u=>h.get? a=some o/\ObjOk H h a u
 | .tbl ps=>h.get? a=some { cls:=.none,data:=.fields ps }
 | .met f x=>h.get? a=some (PySem.W.methodObj (.ref f) (.ref x))
 | .ext φ=>φ h/\(∃o,h.get? a=some o)/\∀h1 h2:Heap,φ h1->(∀o,h1.get? a=some o->h2.get? a=some o)->φ h2
def HOk(H:Hp)(h:Heap):Prop:=∀a o,H a=some o->ObjOk P w H h a o
end
section
variable {P:Program}{w:World}{H H':Hp}{h h':Heap}{a:Addr}{o:HO}
theorem ObjOk.lt(x:ObjOk P w H h a o):a<h.objs.size:=by
 cases o with
 |lst xs=>obtain⟨_,_,_,_,e⟩:=x;exact z5c e
 |tup xs=>obtain⟨_,_,_,p⟩:=x;exact p.lt
 |dK kvs=>obtain⟨_,_,_,_,o,_,_,e,_⟩:=x;exact z5c e
 |dT kvs=>obtain⟨_,_,_,_,o,_,_,e,_⟩:=x;exact z5c e
 |set S n=>obtain⟨o,_,_,_,e,_⟩:=x;exact z5c e
 |ins C dx fs=>obtain⟨_,_,_,e,_⟩:=x;exact z5c e
 |own y=>obtain⟨_,e⟩:=x;exact z5c e
 |xd fs=>obtain⟨_,⟨_,_,_,e,_⟩,_⟩:=x;exact z5c e
 |rng lo hi=>obtain⟨_,_,_,e⟩:=x;exact z5c e
 |frz ob u=>obtain⟨e,_⟩:=x;exact z5c e
 |tbl ps=>exact z5c (show h.get? a=some _ from x)
 |met f y=>exact z5c (show h.get? a=some _ from x)
 |ext φ=>obtain⟨_,⟨_,e⟩,_⟩:=x;exact z5c e
theorem Paired.mapP{α β:Type}{F G:α->β->Prop}:∀{l₁:List α}{l₂:List β},Paired F l₁ l₂->(∀a b,F a b->G a b)->Paired G l₁ l₂
 |_,_,.nil,_=>.nil
 |_,_,.cons r t,f=>.cons (f _ _ r) (Paired.mapP t f)
theorem ObjOk.stay(x:ObjOk P w H h a o)(k:∀b u,(b=a\/H b=some (.own a))->h.get? b=some u->h'.get? b=some u)
   (ho:∀b,H b=some (.own a)->H' b=some (.own a)) (ht:∀b xs,H b=some (.tup xs)->H' b=some (.tup xs)):ObjOk P w H' h' a o:=by
 induction o with
 |lst xs=>obtain⟨z,its,n,r,e⟩:=x;exact⟨z,its,n,r,k _ _ (.inl rfl) e⟩
 |tup xs=>obtain⟨z,its,r,ob,e,c⟩:=x;exact⟨z,its,r,ob,k _ _ (.inl rfl) e,c⟩
 |dK kvs=>obtain⟨z,y,vs,r,ob,es,ep,e,c⟩:=x;exact⟨z,y,vs,r,ob,es,ep,k _ _ (.inl rfl) e,c⟩
 | dT kvs=>
   obtain⟨z,y,xs,r,ob,es,ep,e,c⟩:=x;exact⟨z,y,xs,Paired.mapP r fun p q z=>⟨z.1,ht _ _ z.2.1,z.2.2⟩,ob,es,ep,k _ _ (.inl rfl) e,c⟩
 |set S n=>obtain⟨ob,es,ep,t,e,c⟩:=x;exact⟨ob,es,ep,t,k _ _ (.inl rfl) e,c⟩
 | ins C dx fs=>
   obtain⟨d,z,ne,e,mA,⟨od,es,ep,e2,c⟩,r⟩:=x;exact⟨ho _ d,z,ne,k _ _ (.inl rfl) e,mA,⟨od,es,ep,k _ _ (.inr d) e2,c⟩,r⟩
 |own y=>obtain⟨ob,e⟩:=x;exact⟨ob,k _ _ (.inl rfl) e⟩
 |xd fs=>obtain⟨mA,⟨od,es,ep,e,c⟩,r⟩:=x;exact⟨mA,⟨od,es,ep,k _ _ (.inl rfl) e,c⟩,r⟩
 |rng lo hi=>obtain⟨t,u,v,e⟩:=x;exact⟨t,u,v,k _ _ (.inl rfl) e⟩
 |frz ob u ih=>obtain⟨e,q⟩:=x;exact⟨k _ _ (.inl rfl) e,ih q⟩
 | tbl ps=>
   have e:h.get? a=some { cls:=.none,data:=.fields ps }:=x;show h'.get? a=some { cls:=.none,data:=.fields ps };exact k a _ (.inl rfl) e
 | met f y=>
   have e:h.get? a=some (PySem.W.methodObj (.ref f) (.ref y)):=x;show h'.get? a=some (PySem.W.methodObj (.ref f) (.ref y));exact k a _ (.inl rfl) e
 |ext φ=>obtain⟨p,⟨o,e⟩,st⟩:=x;exact⟨st _ _ p fun o q=>k _ _ (.inl rfl) q,⟨o,k _ _ (.inl rfl) e⟩,st⟩
theorem HOk.lt(x:HOk P w H h)(e:H a=some o):a<h.objs.size:=(x a o e).lt
theorem HOk.fresh(x:HOk P w H h)(e:h.objs.size<=a):H a=none:=by
 cases q:H a with
 |none=>rfl
 |some u=>exact absurd (z48 (x.lt q) e) (z6k _)
theorem HOk.kept(x:HOk P w H h)(k:∀b u,h.get? b=some u->h'.get? b=some u):HOk P w H h':=fun a o e=>
 (x a o e).stay (fun b u _ q=>k b u q) (fun _ q=>q) fun _ _ q=>q
theorem HOk.laid(x:HOk P w H h)(k:∀b u,h.get? b=some u->h'.get? b=some u)(hp:h.objs.size<=a)(new:ObjOk P w (upd H a o) h' a o):HOk P w (upd H a o) h':=fun b u e=>by
 have hn:=x.fresh hp;by_cases hb:b=a
 · subst hb;rw[jh]at e;cases e;exact new
 · rw[zz hb]at e;exact(x b u e).stay (fun c v _ q=>k c v q) (fun c q=>by rw[zz (qh q hn)];exact q) fun c xs q=>by rw[zz (qh q hn)];exact q
end
def Rd(H:Hp)(a:Addr)(u:HO):Prop:=H a=some u\/∃o,H a=some (.frz o u)
theorem Rd.ok{P:Program}{w:World}{H:Hp}{h:Heap}{a:Addr}{u:HO}(r:Rd H a u)(x:HOk P w H h):ObjOk P w H h a u:=by
 rcases r with r | ⟨o,r⟩
 · exact x a u r
 · obtain⟨_,q⟩:=x a _ r;exact q
def Mut:Option HO->Prop
 |some (.lst _)=>True
 |some (.dK _)=>True
 |some (.dT _)=>True
 |some (.set _ _)=>True
 |some (.ins _ _ _)=>True
 |some (.ext _)=>True
 |_=>False
section
variable {P:Program}{w:World}{H:Hp}{h h':Heap}{x e:Addr}{o':HO}
theorem HOk.write(ok:HOk P w H h)(mu:Mut (H x))(he:e=x\/H e=some (.own x))(k:∀b u,b≠e->h.get? b=some u->h'.get? b=some u)(heo:∃u,h'.get? e=some u)
   (new:ObjOk P w (upd H x o') h' x o'):HOk P w (upd H x o') h':=fun b u q=>by
 have nown:∀c y,H c=some (.own y)->c≠x:=fun c y r z=>by subst z;rw[r]at mu;exact mu
 have ntup:∀c xs,H c=some (.tup xs)->c≠x:=fun c xs r z=>by subst z;rw[r]at mu;exact mu
 by_cases hb:b=x
 · subst hb;rw[jh]at q;cases q;exact new
 · rw[zz hb]at q;by_cases hbe:b=e
   · have q':H b=some (.own x):=by
       rcases he with z | z
       · exact absurd (hbe.trans z) hb
       · rw[hbe];exact z
     rw[q]at q';cases q';obtain⟨v,hv⟩:=heo;exact⟨v,by rw[hbe];exact hv⟩
   · refine(ok b u q).stay (fun c v hc r=>k c v ?_ r) (fun c r=>by rw[zz (nown c b r)];exact r) fun c xs r=>by rw[zz (ntup c xs r)];exact r
     rcases hc with rfl | hc
     · exact hbe
     · rintro rfl;rcases he with z | z
       · exact nown c b hc z
       · rw[hc]at z;cases z;exact hb rfl
end
structure Un (fs ex:List Addr) (H H':Hp) (h h':Heap):Prop where
 keep:∀b o,h.get? b=some o->H b=none->b∉fs->b∉ex->h'.get? b=some o
 slot:∀b o,h.get? b=some o->H b=none->b∈fs->b∉ex->∃sl,h'.get? b=some { o with slots:=sl }
 free:∀b o,h.get? b=some o->H b=none->b∉ex->H' b=none
 there:∀b o,h.get? b=some o->b∉ex->∃o',h'.get? b=some o'
 tups:∀b xs,H b=some (.tup xs)->H' b=some (.tup xs)
 frzs:∀b o u,H b=some (.frz o u)->H' b=some (.frz o u)
 tbls:∀b ps,H b=some (.tbl ps)->∃more,H' b=some (.tbl (ps++more))
section
variable {fs fs' ex ex':List Addr}{H H1 H2:Hp}{h h1 h2 h':Heap}{a x e:Addr}{o:HO}
theorem Un.any(u:Un fs ex H H1 h h1){b:Addr}{ob:Obj}(q:h.get? b=some ob)(n:H b=none)(hx:b∉ex):∃sl,h1.get? b=some { ob with slots:=sl }:=by
 by_cases hb:b∈fs
 · exact u.slot b ob q n hb hx
 · exact⟨ob.slots,u.keep b ob q n hb hx⟩
theorem Un.kept(k:∀b u,h.get? b=some u->h'.get? b=some u):Un fs ex H H h h' :=
 ⟨fun b ob q _ _ _=>k b ob q,fun b ob q _ _ _=>⟨ob.slots,k b ob q⟩,fun _ _ _ n _=>n,fun b ob q _=>⟨ob,k b ob q⟩,fun _ _ q=>q,fun _ _ _ q=>q,fun _ ps q=>⟨#[],by rw[q];simp⟩⟩
theorem Un.refl:Un fs ex H H h h:=Un.kept fun _ _ q=>q
theorem Un.laid(k:∀b u,h.get? b=some u->h'.get? b=some u)(hp:h.objs.size<=a)(hn:H a=none):Un fs ex H (upd H a o) h h' where
 keep:=fun b u q _ _ _=>k b u q
 slot:=fun b u q _ _ _=>⟨u.slots,k b u q⟩
 free:=fun b u q n _=>by rw[zz (z5n (z48 (z5c q) hp))];exact n
 there:=fun b u q _=>⟨u,k b u q⟩
 tups:=fun b xs q=>by rw[zz (qh q hn)];exact q
 frzs:=fun b u xs q=>by rw[zz (qh q hn)];exact q
 tbls:=fun b ps q=>⟨#[],by rw[zz (qh q hn),q];simp⟩
theorem Un.write(mu:Mut (H x))(he:e=x\/H e=some (.own x))(k:∀b u,b≠e->h.get? b=some u->h'.get? b=some u)(heo:∃u,h'.get? e=some u):Un fs ex H (upd H x o) h h':=by
 have hx:∀b,H b=none->b≠x:=fun b n z=>by subst z;rw[n]at mu;exact mu
 have hb:∀b,H b=none->b≠e:=fun b n z=>by
   subst z;rcases he with r | r
   · exact hx b n r
   · rw[n]at r;cases r
 have hm:∀b u,H b=some u->¬ Mut (some u)->b≠x:=fun b u q nm z=>by subst z;rw[q]at mu;exact nm mu
 refine⟨fun b u q n _ _=>k b u (hb b n) q,fun b u q n _ _=>⟨u.slots,k b u (hb b n) q⟩,fun b u q n _=>by rw[zz (hx b n)];exact n,fun b u q _=>?_,
   fun b xs q=>by rw[zz (hm b _ q fun z=>z)];exact q,fun b u xs q=>by rw[zz (hm b _ q fun z=>z)];exact q,fun b ps q=>⟨#[],by rw[zz (hm b _ q fun z=>z),q];simp⟩⟩
 by_cases hbe:b=e
 · subst hbe;exact heo
 · exact⟨u,k b u hbe q⟩
end
def trk(h:Heap)(H:Hp):List Addr:=(List.range h.objs.size).filter fun a=>(H a).isSome
def zrf(h:Heap)(H:Hp):Heap:=PySem.W.hideAll h (trk h H)
theorem zoq(h:Heap)(H:Hp):(zrf h H).objs.size=h.objs.size:=PySem.W.hideAll_size _ _
theorem zre{h:Heap}{H:Hp}{b:Addr}{o:Obj}(e:h.get? b=some o)(n:H b=none):(zrf h H).get? b=some o :=
 PySem.W.hideAll_get _ e fun hm=>by have q:(H b).isSome=true:=(List.mem_filter.mp hm).2;rw[n]at q;simp at q
theorem zur{h:Heap}{H:Hp}{b:Addr}{o:Obj}(e:(zrf h H).get? b=some o):h.get? b=some o/\H b=none:=by
 have e':h.get? b=some o:=PySem.W.of_hideAll (trk h H) e;refine⟨e',?_⟩;cases q:H b with
 |none=>rfl
 | some x=>
   have hm:b∈trk h H:=List.mem_filter.mpr ⟨List.mem_range.mpr (z5c e'),by simp[q]⟩;have z:(zrf h H).get? b=none:=PySem.W.hideAll_none (trk h H) hm;rw[z]at e;cases e
def zv2(g h:Heap)(L:Addr):zAO:=(List.range h.objs.size).filterMap fun a=>if a=L\/(g.get? a).isSome=true then none else (h.get? a).map fun o=>(a,o)
def rest(g h:Heap)(L d:Addr):zAO:=(zv2 g h L).filter fun p=>decide (p.1≠d)
structure Mod (K:zFr) (mg:zMg) (base:Heap):Prop where
 kin:K.In base
 glob:base.Ns mainGlobals mg
 blt:∃mb,base.Ns builtinsNs mb/\∀x:Str,x≠"__name__"->mb x=bootBuiltins x
 nolimit:base.NoLimit
structure Cx where
 prog:Program
 w:World
 K:zFr
 mg:zMg
 base:Heap
 A:Around
 N:List Str
 s₀:Shared
 H₀:Hp
 env:Env
 outer:List Env
 stack:List Env
 ex:List Addr
 fn:Str->Bool
 calm:Bool
 pn:zAO
 xe:zVP
def frs(l:List Env):List Addr:=l.filterMap (·.frame)
abbrev Cx.fs(X:Cx):List Addr:=frs X.outer
def Vis(sc:Scope)(x:Str):Prop:=sc.names.lookup x=some .local\/sc.names.lookup x=some .cell\/sc.names.lookup x=some .free
def Loc(sc:Scope)(x:Str):Prop:=sc.names.lookup x=some .local\/sc.names.lookup x=some .cell
def z4u(env:Env)(h:Heap)(m:zMg)(x:Str)(u:Value):Prop :=
 (env.kindOf x=some .local/\m x=some u)\/((env.kindOf x=some .cell\/env.kindOf x=some .free)/\∃c,env.cells.lookup x=some c/\h.IsCell c (some u))
structure Cx.Ok (X:Cx):Prop where
 mod:Mod X.K X.mg X.base
 kind:X.env.scope.kind=.function
 glob:X.env.globals=mainGlobals
 blt:X.env.builtins=builtinsNs
 above:X.s₀.heap.objs.size<=X.env.locals
 inj:∀x y c,X.env.cells.lookup x=some c->X.env.cells.lookup y=some c->x=y
 has:∀x,(X.env.kindOf x=some .cell\/X.env.kindOf x=some .free)->∃c,X.env.cells.lookup x=some c
 cab:∀x c,X.fn x=true->X.env.cells.lookup x=some c->X.s₀.heap.objs.size<=c
 hd:X.calm=true->X.A.handled=none
 frames:X.A.frames=some X.stack
 stk:X.stack=X.outer\/(X.stack=X.env::X.outer/\X.env.frame=some X.env.locals)
 exf:∀b∈X.ex,b≠X.env.locals/\∀x c,X.env.cells.lookup x=some c->c≠b
 bs:∀b o,X.base.get? b=some o->X.s₀.heap.get? b=some o/\X.H₀ b=none
 bsz:X.base.objs.size<=X.s₀.heap.objs.size
 noex:∀b o,X.base.get? b=some o->b∉X.ex
 exfs:∀b∈X.ex,b∉X.fs
 funs:X.s₀.heap.FunFrames X.base X.outer
 frf:∀b∈X.fs,X.H₀ b=none
structure Inv (X:Cx) (pins:zAO) (σ:List (Option V)) (H:Hp) (s:Shared):Prop where
 ok:X.Ok
 os:s.os=X.s₀.os
 bare:AllBare s.gens
 base:Un X.fs X.ex X.H₀ H X.s₀.heap s.heap
 loc:∃m,s.heap.Ns X.env.locals m/\∀(i:Nat) (x:Str) (v:V),X.N[i]? = some x->σ[i]? = some (some v)->Vis X.env.scope x->∃u,RelV v u/\z4u X.env s.heap m x u
 cell:∀x c,X.env.cells.lookup x=some c->∃v,s.heap.IsCell c v
 free:H X.env.locals=none
 freeC:∀x c,X.env.cells.lookup x=some c->H c=none
 pin:∀p∈X.pn++pins,s.heap.get? p.1=some p.2/\H p.1=none/\p.1≠X.env.locals/\p.1∉X.fs/\∀v,p.2.data≠.cell v
 hok:HOk X.prog X.w H s.heap
 len:σ.length=X.N.length
section
variable {X:Cx}{pins:zAO}{σ:List (Option V)}{H H':Hp}{s:Shared}{h':Heap}
theorem Cx.Ok.nofr(ok:X.Ok){b:Addr}{o:Obj}(e:X.base.get? b=some o):b∉X.fs:=fun hb=>by have:=(ok.funs.mem hb).1;rw[e]at this;cases this
theorem Inv.bs(I:Inv X pins σ H s):∀b o,X.base.get? b=some o->s.heap.get? b=some o/\H b=none:=fun b o e=>
 ⟨I.base.keep b o (I.ok.bs b o e).1 (I.ok.bs b o e).2 (I.ok.nofr e) (I.ok.noex b o e),I.base.free b o (I.ok.bs b o e).1 (I.ok.bs b o e).2 (I.ok.noex b o e)⟩
theorem Inv.bk(I:Inv X pins σ H s):∀b o,X.base.get? b=some o->s.heap.get? b=some o:=fun b o e=>(I.bs b o e).1
theorem Inv.mod(I:Inv X pins σ H s):Mod X.K X.mg X.base:=I.ok.mod
theorem Inv.kIn(I:Inv X pins σ H s):X.K.In s.heap:=I.ok.mod.kin.keeps I.bk
theorem Inv.lt(I:Inv X pins σ H s):X.env.locals<s.heap.objs.size:=let⟨_,hn,_⟩:=I.loc;hn.lt
theorem Inv.sz(I:Inv X pins σ H s):X.s₀.heap.objs.size<=s.heap.objs.size:=z5p I.ok.above (z6t I.lt)
theorem Inv.nofs(I:Inv X pins σ H s){a:Addr}(h:s.heap.objs.size<=a):a∉X.fs:=fun hb=>by obtain⟨_,o,ho,_⟩:=I.ok.funs.mem hb;exact absurd (z48 (z5c ho) (z5p I.sz h)) (z6k _)
theorem Inv.cne(I:Inv X pins σ H s):∀x c,X.env.cells.lookup x=some c->c≠X.env.locals:=fun x c e z=>by obtain⟨v,o,ho,hd⟩:=I.cell x c e;obtain⟨m,⟨o',es,ep,ho',hd',_⟩,_⟩:=I.loc;rw[z,ho']at ho;cases ho;rw[hd']at hd;cases hd
theorem Inv.funs(I:Inv X pins σ H s):s.heap.FunFrames X.base X.outer:=by
 have all:∀(l:List Env),(∀b∈frs l,b∈X.fs)->X.s₀.heap.FunFrames X.base l->s.heap.FunFrames X.base l:=by
   intro l
   induction l with
   |nil=>intro _ _;trivial
   | cons env r ih=>
     intro hs hl;obtain⟨hk,⟨L,o,hf,hn,ho,hd⟩,hr⟩:=hl;have hL:L∈X.fs:=hs L (by unfold frs;rw[List.filterMap_cons,hf];exact z5w);obtain⟨sl,e⟩:=I.base.slot L o ho (I.ok.frf L hL) hL fun z=>I.ok.exfs L z hL;exact⟨hk,⟨L,_,hf,hn,e,hd⟩,ih (fun b hb=>hs b (by unfold frs;rw[List.filterMap_cons,hf];exact z5d _ hb)) hr⟩
 exact all X.outer (fun _ hb=>hb) I.ok.funs
theorem Inv.stack(I:Inv X pins σ H s):s.heap.FunFrames X.base X.stack:=by
 rcases I.ok.stk with e | ⟨e,hf⟩
 · rw[e];exact I.funs
 · rw[e];obtain⟨m,hn,_⟩:=I.loc;refine .cons (by rw[I.ok.kind];decide) hf hn ?_ I.funs;exact z6f (z5p I.ok.bsz I.ok.above)
theorem Inv.stkSub(I:Inv X pins σ H s):∀b∈frs X.stack,b∈X.env.locals::X.fs:=fun b hb=>by
 rcases I.ok.stk with e | ⟨e,hf⟩
 · rw[e]at hb;exact z5d _ hb
 · rw[e]at hb;unfold frs at hb;rw[List.filterMap_cons,hf]at hb;exact hb
theorem Inv.stkFree(I:Inv X pins σ H s):∀b∈frs X.stack,H b=none:=fun b hb=>by
 rcases z5z.mp (I.stkSub b hb)with e | hb
 · rw[e];exact I.free
 · obtain⟨_,o,ho,_⟩:=I.ok.funs.mem hb;exact I.base.free b o ho (I.ok.frf b hb) fun z=>I.ok.exfs b z hb
theorem Inv.step{g':Array GenState}{t':Nat}{d':Drawn}{ch:List Addr}(I:Inv X pins σ H s)
   (hch:∀b∈ch,(b∈X.ex\/X.s₀.heap.objs.size<=b)/\b≠X.env.locals/\(∀x c,X.env.cells.lookup x=some c->c≠b)/\∀p∈X.pn++pins,p.1≠b)
   (keep:∀b o,b≠X.env.locals->b∉X.fs->b∉ch->s.heap.get? b=some o->H b=none->h'.get? b=some o)
   (slot:∀b o,b≠X.env.locals->b∈X.fs->b∉ch->s.heap.get? b=some o->H b=none->∃sl,h'.get? b=some { o with slots:=sl }) (free:∀b o,b∉ch->s.heap.get? b=some o->H b=none->H' b=none)
   (there:∀b o,b∉ch->s.heap.get? b=some o->∃o',h'.get? b=some o')
   (tups:∀b xs,H b=some (.tup xs)->H' b=some (.tup xs)) (frzs:∀b o u,H b=some (.frz o u)->H' b=some (.frz o u)) (tbls:∀b ps,H b=some (.tbl ps)->∃more,H' b=some (.tbl (ps++more)))
   (ns:∀m,s.heap.Ns X.env.locals m->h'.Ns X.env.locals m) (hok:HOk X.prog X.w H' h') (hg:AllBare g') :
   Inv X pins σ H' { s with heap:=h',gens:=g',drawn:=d',toks:=t' }:=by
 have neL:∀b o,X.s₀.heap.get? b=some o->b≠X.env.locals:=fun b o e=>z5n (z48 (z5c e) I.ok.above);have neC:∀b o,X.s₀.heap.get? b=some o->b∉X.ex->b∉ch:=fun b o e hx hb=>by
   rcases(hch b hb).1 with z | z
   · exact hx z
   · exact absurd (z48 (z5c e) z) (z6k _)
 have cellK:∀x c,X.env.cells.lookup x=some c->∀v,s.heap.IsCell c v->h'.IsCell c v:=fun x c e v ⟨o,ho,hd⟩=>by
   have nch:c∉ch:=fun z=>(hch c z).2.2.1 x c e rfl;by_cases hc:c∈X.fs
   · obtain⟨sl,q⟩:=slot c o (I.cne x c e) hc nch ho (I.freeC x c e);exact⟨_,q,hd⟩
   · exact⟨o,keep c o (I.cne x c e) hc nch ho (I.freeC x c e),hd⟩
 refine⟨I.ok,I.os,hg,⟨fun b o e n hb hx=>?_,fun b o e n hb hx=>?_,fun b o e n hx=>?_,fun b o e hx=>?_,fun b xs e=>tups b xs (I.base.tups b xs e),fun b o xs e=>frzs b o xs (I.base.frzs b o xs e),fun b ps e=>?_⟩,?_,fun x c e=>?_,?_,fun x c e=>?_,fun p hp=>?_,hok,I.len⟩
 · exact keep b o (neL b o e) hb (neC b o e hx) (I.base.keep b o e n hb hx) (I.base.free b o e n hx)
 · obtain⟨sl,e1⟩:=I.base.slot b o e n hb hx;obtain⟨sl',e2⟩:=slot b _ (neL b o e) hb (neC b o e hx) e1 (I.base.free b o e n hx);exact⟨sl',e2⟩
 · obtain⟨o',e1⟩:=I.base.there b o e hx;exact free b o' (neC b o e hx) e1 (I.base.free b o e n hx)
 · obtain⟨o',e1⟩:=I.base.there b o e hx;exact there b o' (neC b o e hx) e1
 · obtain⟨m1,e1⟩:=I.base.tbls b ps e;obtain⟨m2,e2⟩:=tbls b _ e1;exact⟨m1++m2,by rw[e2,Array.append_assoc]⟩
 · obtain⟨m,hn,hl⟩:=I.loc;refine⟨m,ns m hn,fun i x v e1 e2 e3=>?_⟩;obtain⟨u,r,l⟩:=hl i x v e1 e2 e3;refine⟨u,r,?_⟩;rcases l with l | ⟨k,c,e,z⟩
   · exact .inl l
   · exact .inr ⟨k,c,e,cellK x c e _ z⟩
 · obtain⟨v,z⟩:=I.cell x c e;exact⟨v,cellK x c e v z⟩
 · obtain⟨m,⟨o,_,_,ho,_⟩,_⟩:=I.loc;exact free _ o (fun z=>(hch _ z).2.1 rfl) ho I.free
 · obtain⟨v,o,ho,hd⟩:=I.cell x c e;exact free c o (fun z=>(hch c z).2.2.1 x c e rfl) ho (I.freeC x c e)
 · obtain⟨e,n,ne,nf,d⟩:=I.pin p hp;have nch:p.1∉ch:=fun z=>(hch p.1 z).2.2.2 p hp rfl;exact⟨keep p.1 p.2 ne nf nch e n,free p.1 p.2 nch e n,ne,nf,d⟩
theorem Inv.un{t':Nat}(I:Inv X pins σ H s)(u:Un X.fs [] H H' s.heap h')(hok:HOk X.prog X.w H' h'):Inv X pins σ H' { s with heap:=h',toks:=t' }:=by
 obtain⟨m,⟨o,es,ep,ho,r⟩,_⟩:=id I.loc;obtain⟨sl,hL⟩:=u.any ho I.free (by simp);exact I.step (g':=s.gens) (d':=s.drawn) (ch:=[]) (fun _ z=>nomatch z) (fun b o _ hb _ e n=>u.keep b o e n hb (by simp)) (fun b o _ hb _ e n=>u.slot b o e n hb (by simp)) (fun b o _ e n=>u.free b o e n (by simp)) (fun b o _ e=>u.there b o e (by simp)) u.tups u.frzs u.tbls (fun m' hm=>by
   obtain⟨o',es',ep',ho',r'⟩:=hm;rw[ho]at ho';cases ho';exact⟨_,es',ep',hL,r'⟩) hok I.bare
theorem Inv.call{g':Array GenState}{t':Nat}{d':Drawn}{ch:List Addr}(I:Inv X pins σ H s)(u:Un (frs X.stack) ch H H' s.heap h')(hok:HOk X.prog X.w H' h')(hg:AllBare g')
   (hch:∀b∈ch,(b∈X.ex\/X.s₀.heap.objs.size<=b)/\b≠X.env.locals/\(∀x c,X.env.cells.lookup x=some c->c≠b)/\∀p∈X.pn++pins,p.1≠b) :
   Inv X pins σ H' { s with heap:=h',gens:=g',drawn:=d',toks:=t' }:=by
 obtain⟨m,⟨o,es,ep,ho,r⟩,_⟩:=id I.loc;obtain⟨sl,hL⟩:=u.any ho I.free fun z=>(hch _ z).2.1 rfl;exact I.step (ch:=ch) hch (fun b o hL hb hc e n=>u.keep b o e n (fun z=>(z5z.mp (I.stkSub b z)).elim hL hb) hc) (fun b o _ _ hc e n=>u.any e n hc) (fun b o hc e n=>u.free b o e n hc) (fun b o hc e=>u.there b o e hc) u.tups u.frzs u.tbls (fun m' hm=>by
   obtain⟨o',es',ep',ho',r'⟩:=hm;rw[ho]at ho';cases ho';exact⟨_,es',ep',hL,r'⟩) hok hg
theorem Inv.turned{t':Nat}{it:Addr}(I:Inv X pins σ H s)(k:∀b o,b≠it->s.heap.get? b=some o->h'.get? b=some o)(hn:H it=none)(hL:it≠X.env.locals)
   (h1:it∈X.ex\/X.s₀.heap.objs.size<=it) (h2:∀x c,X.env.cells.lookup x=some c->c≠it) (h3:∀p∈X.pn++pins,p.1≠it):Inv X pins σ H { s with heap:=h',toks:=t' }:=by
 have nit:∀b u,H b=some u->b≠it:=fun b u e z=>by rw[z,hn]at e;cases e
 refine I.step (g':=s.gens) (d':=s.drawn) (ch:=[it]) (fun b hb=>?_) (fun b o _ _ hc e _=>k b o (fun z=>hc (by simp[z])) e) (fun b o _ _ hc e _=>⟨o.slots,k b o (fun z=>hc (by simp[z])) e⟩) (fun _ _ _ _ n=>n)
   (fun b o hc e=>⟨o,k b o (fun z=>hc (by simp[z])) e⟩) (fun _ _ e=>e) (fun _ _ _ e=>e) (fun b ps e=>⟨#[],by rw[e];simp⟩) (fun m hm=>?_) (fun b u e=>?_) I.bare
 · have e:b=it:=by simpa using hb
   subst e;exact⟨h1,hL,h2,h3⟩
 · obtain⟨o,es,ep,ho,r⟩:=hm;exact⟨o,es,ep,k _ o (z5x hL) ho,r⟩
 · refine(I.hok b u e).stay (fun c v hc q=>k c v ?_ q) (fun _ q=>q) fun _ _ q=>q;rcases hc with z | z
   · rw[z];exact nit b u e
   · exact nit c _ z
theorem Inv.tok(I:Inv X pins σ H s)(t:Nat):Inv X pins σ H { s with toks:=t }:=I.un (h':=s.heap) (t':=t) Un.refl I.hok
theorem Inv.kept{t':Nat}(I:Inv X pins σ H s)(k:∀b u,s.heap.get? b=some u->h'.get? b=some u):Inv X pins σ H { s with heap:=h',toks:=t' }:=I.un (Un.kept k) (I.hok.kept k)
theorem Inv.laid{a:Addr}{o:HO}{t':Nat}(I:Inv X pins σ H s)(k:∀b u,s.heap.get? b=some u->h'.get? b=some u)(hp:s.heap.objs.size<=a)(new:ObjOk X.prog X.w (upd H a o) h' a o) :
   Inv X pins σ (upd H a o) { s with heap:=h',toks:=t' }:=I.un (Un.laid k hp (I.hok.fresh hp)) (I.hok.laid k hp new)
theorem Inv.write{x e:Addr}{o:HO}{t':Nat}(I:Inv X pins σ H s)(mu:Mut (H x))(he:e=x\/H e=some (.own x))(k:∀b u,b≠e->s.heap.get? b=some u->h'.get? b=some u)(heo:∃u,h'.get? e=some u)
   (new:ObjOk X.prog X.w (upd H x o) h' x o):Inv X pins σ (upd H x o) { s with heap:=h',toks:=t' }:=I.un (Un.write mu he k heo) (I.hok.write mu he k heo new)
theorem Inv.pins_of{pins':zAO}(I:Inv X pins σ H s)(h:∀p∈pins',s.heap.get? p.1=some p.2/\H p.1=none/\p.1≠X.env.locals/\p.1∉X.fs/\∀v,p.2.data≠.cell v):Inv X pins' σ H s :=
 ⟨I.ok,I.os,I.bare,I.base,I.loc,I.cell,I.free,I.freeC,fun p hp=>(z6m.mp hp).elim (fun z=>I.pin p (z6z _ z)) (h p),I.hok,I.len⟩
theorem zg0{N:List Str}(hN:N.Nodup){i j:Nat}{x:Str}(a:N[i]? = some x)(b:N[j]? = some x):i=j:=by obtain⟨h1,e1⟩:=z4y.mp a;obtain⟨h2,e2⟩:=z4y.mp b;exact(List.getElem_inj hN).mp (e1.trans e2.symm)
theorem zh2{M:Model}{A:Around}{E:zVP}{i:Nat}{x:Str}{v:V}{u:Value}{Q:Unit->Shared->Prop}(I:Inv X pins σ H s)(hN:X.N.Nodup)(hi:X.N[i]? = some x)(hx:Loc X.env.scope x)(r:RelV v u)
   (h:∀s',Inv X pins (σ.set i (some v)) H s'->(∃a,Heap.SameBut a s.heap s'.heap/\(a=X.env.locals\/X.env.cells.lookup x=some a))->Q () s') (hf:X.fn x=true\/X.env.scope.names.lookup x=some .local:=by first | exact .inl rfl | exact .inr rfl | assumption):wpAny M A (storeName X.env x u) Q E s:=by
 obtain⟨m,hn,hl⟩:=id I.loc;have hcls:(X.env.scope.kind==.class||(X.env.scope.kind==.module&&X.env.locals != X.env.globals))=false:=by rw[I.ok.kind];rfl
 have hiσ:i<σ.length:=by rw[I.len];exact(z4y.mp hi).1
 have cne:=I.cne;have tracked:∀{a:Addr}{h':Heap},(∃o,s.heap.get? a=some o/\H a=none)->Heap.SameBut a s.heap h'->HOk X.prog X.w H h':=fun {a h'} ha hs b ob e=>by
   obtain⟨_,_,hfree⟩:=ha;refine(I.hok b ob e).stay (fun c w' hc q=>(hs.2 c ?_).trans q) (fun _ q=>q) fun _ _ q=>q;rintro rfl;rcases hc with rfl | hc
   · rw[hfree]at e;cases e
   · rw[hfree]at hc;cases hc
 rcases hx with hk | hk
 · refine wpAny_storeName_local hk hn (fun h' hn' hs=>?_) hcls;obtain⟨oL,_,_,hoL,_⟩:=id hn;refine h _ ⟨I.ok,I.os,I.bare,⟨fun b o e n hb hx=>?_,fun b o e n hb hx=>?_,I.base.free,fun b o e hx=>?_,I.base.tups,I.base.frzs,I.base.tbls⟩,⟨_,hn',fun j y v' e1 e2 e3=>?_⟩,fun y c e=>?_,I.free,I.freeC,fun p hp=>?_,tracked ⟨oL,hoL,I.free⟩ hs,by simpa using I.len⟩ ⟨_,hs,.inl rfl⟩
   · exact(hs.2 b (z5n (z48 (z5c e) I.ok.above))).trans (I.base.keep b o e n hb hx)
   · obtain⟨sl,e1⟩:=I.base.slot b o e n hb hx;exact⟨sl,(hs.2 b (z5n (z48 (z5c e) I.ok.above))).trans e1⟩
   · obtain⟨o',e1⟩:=I.base.there b o e hx;exact⟨o',(hs.2 b (z5n (z48 (z5c e) I.ok.above))).trans e1⟩
   · by_cases hj:j=i
     · subst hj;rw[hi]at e1;cases e1;rw[z5m hiσ]at e2;cases e2;exact⟨u,r,.inl ⟨hk,by simp⟩⟩
     · rw[z43 (z5x hj)]at e2;obtain⟨u',r',q⟩:=hl j y v' e1 e2 e3;refine⟨u',r',?_⟩;rcases q with⟨k,e⟩ | ⟨k,c,e,z⟩
       · refine .inl ⟨k,?_⟩;have:y≠x:=fun e=>hj (zg0 hN e1 (e▸hi));simp[this,e]
       · exact .inr ⟨k,c,e,z.sameBut hs (cne y c e)⟩
   · obtain⟨w',z⟩:=I.cell y c e;exact⟨w',z.sameBut hs (cne y c e)⟩
   · obtain⟨e,n,ne,nf,d⟩:=I.pin p hp;exact⟨(hs.2 p.1 ne).trans e,n,ne,nf,d⟩
 · have hfn:X.fn x=true:=by
     rcases hf with z | z
     · exact z
     · rw[z]at hk;cases hk
   obtain⟨c,hc⟩:=I.ok.has x (.inl hk);obtain⟨w',z⟩:=I.cell x c hc;refine wpAny_storeName_cell I.ok.kind hk hc z (fun h' hc' hs=>?_);obtain⟨oc,hoc,hocd⟩:=id z;refine h { s with heap:=h' } ⟨I.ok,I.os,I.bare,⟨fun b o e n hb hx=>?_,fun b o e n hb hx=>?_,I.base.free,fun b o e hx=>?_,I.base.tups,I.base.frzs,I.base.tbls⟩,⟨m,hn.sameBut hs (z5x (cne x c hc)),fun j y v' e1 e2 e3=>?_⟩,fun y c' e=>?_,I.free,I.freeC,fun p hp=>?_,tracked ⟨oc,hoc,I.freeC x c hc⟩ hs,by simpa using I.len⟩ ⟨c,hs,.inr hc⟩
   · exact(hs.2 b (z5n (z48 (z5c e) (I.ok.cab x c hfn hc)))).trans (I.base.keep b o e n hb hx)
   · obtain⟨sl,e1⟩:=I.base.slot b o e n hb hx;exact⟨sl,(hs.2 b (z5n (z48 (z5c e) (I.ok.cab x c hfn hc)))).trans e1⟩
   · obtain⟨o',e1⟩:=I.base.there b o e hx;exact⟨o',(hs.2 b (z5n (z48 (z5c e) (I.ok.cab x c hfn hc)))).trans e1⟩
   · by_cases hj:j=i
     · subst hj;rw[hi]at e1;cases e1;rw[z5m hiσ]at e2;cases e2;exact⟨u,r,.inr ⟨.inl hk,c,hc,hc'⟩⟩
     · rw[z43 (z5x hj)]at e2;obtain⟨u',r',q⟩:=hl j y v' e1 e2 e3;refine⟨u',r',?_⟩;rcases q with q | ⟨k,c',e,z'⟩
       · exact .inl q
       · refine .inr ⟨k,c',e,z'.sameBut hs ?_⟩;rintro rfl;exact hj (zg0 hN e1 (I.ok.inj _ _ _ e hc▸hi))
   · by_cases hcc:c'=c
     · subst hcc;exact⟨_,hc'⟩
     · obtain⟨w2,z2⟩:=I.cell y c' e;exact⟨w2,z2.sameBut hs hcc⟩
   · obtain⟨e,n,ne,nf,d⟩:=I.pin p hp;refine⟨(hs.2 p.1 ?_).trans e,n,ne,nf,d⟩;intro q;rw[q,hoc]at e;have q':oc=p.2:=z5s e;exact d w' (by rw[<-q'];exact hocd)
theorem zd9{M:Model}{A:Around}{E:zVP}{i:Nat}{x:Str}{v:V}{u:Value}{Q:Unit->Shared->Prop}(I:Inv X pins σ H s)(hN:X.N.Nodup)(hi:X.N[i]? = some x)(hx:Loc X.env.scope x)(r:RelV v u)
   (h:∀s',Inv X pins (σ.set i (some v)) H s'->Q () s') (hf:X.fn x=true\/X.env.scope.names.lookup x=some .local:=by first | exact .inl rfl | exact .inr rfl | assumption):wpAny M A (storeName X.env x u) Q E s :=
 zh2 I hN hi hx r (fun s' I' _=>h s' I') hf
theorem Inv.call'{s':Shared}{ch:List Addr}(I:Inv X pins σ H s)(ho:s'.os=s.os)(u:Un (frs X.stack) ch H H' s.heap s'.heap)(hok:HOk X.prog X.w H' s'.heap)(hg:AllBare s'.gens)
   (hch:∀b∈ch,(b∈X.ex\/X.s₀.heap.objs.size<=b)/\b≠X.env.locals/\(∀x c,X.env.cells.lookup x=some c->c≠b)/\∀p∈X.pn++pins,p.1≠b):Inv X pins σ H' s':=by
 obtain⟨h',g',d',t',o'⟩:=s';have e:o'=s.os:=ho;subst e;exact I.call (g':=g') (t':=t') (d':=d') u hok hg hch
end
abbrev XK:=Value->Option Addr->Hp->Prop
abbrev St:=List (Option V)
abbrev VK:=V->Hp->Prop
abbrev TE:=St->Hp->VK->Prop
abbrev TT:=St->Hp->(Bool->Hp->Prop)->Prop
abbrev TA:=St->Hp->(List V->Hp->Prop)->Prop
structure Ends where
 nx:St->Hp->Prop
 rt:VK
 bk:St->Hp->Prop:=fun _ _=>False
 ct:St->Hp->Prop:=fun _ _=>False
abbrev TS:=Ends->St->Hp->Prop
def EP(X:Cx)(pins:zAO)(σ:St)(Q:VK)(u:Value)(s':Shared):Prop:=∃v H',Inv X pins σ H' s'/\RelV v u/\Q v H'
def TP(X:Cx)(pins:zAO)(σ:St)(Q:Bool->Hp->Prop)(b:Bool)(s':Shared):Prop:=∃H',Inv X pins σ H' s'/\Q b H'
def AP(X:Cx)(pins:zAO)(σ:St)(Q:List V->Hp->Prop)(us:List Value)(s':Shared):Prop:=∃vs H',Inv X pins σ H' s'/\Vals vs us/\Q vs H'
def SP(X:Cx)(pins:zAO)(D:Ends)(f:Flow)(s':Shared):Prop :=
 match f with
 | .next=>∃σ' H',Inv X pins σ' H' s'/\D.nx σ' H'
 | .brk=>∃σ' H',Inv X pins σ' H' s'/\D.bk σ' H'
 | .cont=>∃σ' H',Inv X pins σ' H' s'/\D.ct σ' H'
 | .ret u=>∃v σ' H',Inv X pins σ' H' s'/\RelV v u/\D.rt v H'
def PE(X:Cx)(e:Expr)(t:TE):Prop :=
 ∀(pins:zAO) (s:Shared) (σ:St) (H:Hp) (Q:VK),Inv X pins σ H s->t σ H Q->wpAny (model X.prog X.w) X.A (eval e X.env) (EP X pins σ Q) X.xe s
def PT(X:Cx)(e:Expr)(t:TT):Prop :=
 ∀(pins:zAO) (s:Shared) (σ:St) (H:Hp) (Q:Bool->Hp->Prop),Inv X pins σ H s->t σ H Q->wpAny (model X.prog X.w) X.A (isTrue e X.env (eval e X.env)) (TP X pins σ Q) X.xe s
def PW(X:Cx)(e:Expr)(t:TT):Prop :=
 ∀(whole:Sem Value) (pins:zAO) (s:Shared) (σ:St) (H:Hp) (Q:Bool->Hp->Prop),Inv X pins σ H s->t σ H Q->wpAny (model X.prog X.w) X.A (isTrue e X.env whole) (TP X pins σ Q) X.xe s
theorem PW.pt{X:Cx}{e:Expr}{t:TT}(h:PW X e t):PT X e t:=h _
def PA(X:Cx)(es:List Expr)(t:TA):Prop :=
 ∀(pos:Pos) (pins:zAO) (s:Shared) (σ:St) (H:Hp) (Q:List V->Hp->Prop),Inv X pins σ H s->t σ H Q->wpAny (model X.prog X.w) X.A (spliced (backTo pos (starEach es X.env))) (AP X pins σ Q) X.xe s
def PS(X:Cx)(st:Stmt)(t:TS):Prop :=
 ∀(pins:zAO) (s:Shared) (σ:St) (H:Hp) (D:Ends),Inv X pins σ H s->t D σ H->wpAny (model X.prog X.w) X.A (exec st X.env) (SP X pins D) X.xe s
def PSs(X:Cx)(st:List Stmt)(t:TS):Prop :=
 ∀(pins:zAO) (s:Shared) (σ:St) (H:Hp) (D:Ends),Inv X pins σ H s->t D σ H->wpAny (model X.prog X.w) X.A (execs st X.env) (SP X pins D) X.xe s
theorem thn{α:Type}{t:Sem α}{Q Q':α->Shared->Prop}{M:Model}{A:Around}{E:zVP}{s:Shared}(h:wpAny M A t Q E s)(hQ:∀a s,Q a s->Q' a s):wpAny M A t Q' E s:=z7t h hQ fun _ _ x=>x
section
variable {X:Cx}
def z3z(i:Nat):TE:=fun σ H Q=>∃v,σ[i]? = some (some v)/\Q v H
def tC(v:V):TE:=fun _ H Q=>Q v H
theorem zh8{i:Nat}{x:Str}{pos:Pos}(hN:X.N[i]? = some x)(hv:Vis X.env.scope x)(hd:(x==("__debug__":Str))=false:=by decide)(hcd:(x==("__classdict__":Str))=false:=by decide):PE X (.Name x pos) (z3z i):=by
 intro pins s σ H Q I h;obtain⟨v,e,h⟩:=h;obtain⟨m,hn,hl⟩:=I.loc;obtain⟨u,r,l⟩:=hl i x v hN e hv;have fin:EP X pins σ Q u s:=⟨v,H,I,r,h⟩
 rcases l with⟨hk,hm⟩ | ⟨hk,c,hc,hcell⟩
 · exact wpAny_Name (wpAny_loadName_local I.ok.kind hk hn hm fin) hd
 · rcases hk with hk | hk
   · exact wpAny_Name (wpAny_loadName_cell I.ok.kind hk hc hcell fin) hd
   · exact wpAny_Name (wpAny_loadName_free I.ok.kind hk hc hcell fin hcd) hd
theorem zx4{i j pos}:PE X (.Constant (.int i) j pos) (tC (.int i)):=fun _ _ _ H _ I h=>wpAny_Constant_int ⟨.int i,H,I.tok _,⟨_,rfl⟩,h⟩
theorem z1t{b j pos}:PE X (.Constant (.bool b) j pos) (tC (.bl b)):=fun _ _ _ H _ I h=>Constant_bool ⟨.bl b,H,I,rfl,h⟩
theorem zx3{j pos}:PE X (.Constant .none j pos) (tC .non):=fun _ _ _ H _ I h=>Constant_none ⟨.non,H,I,rfl,h⟩
theorem zx1{x j pos}:PE X (.Constant (.str x) j pos) (tC (.str x)):=fun _ _ _ H _ I h=>Calls.Constant_str ⟨.str x,H,I.tok _,⟨_,rfl⟩,h⟩
def Gl(X:Cx)(x:Str):Prop:=X.env.kindOf x=some .globalImplicit
theorem zak{E:zVP}{pins:zAO}{s:Shared}{σ:St}{H:Hp}{x:Str}{u:Value}{pos:Pos}{Q:zVP}(I:Inv X pins σ H s)(hg:Gl X x)(hm:X.mg x=some u)(h:Q u s)
   (hd:(x==("__debug__":Str))=false:=by decide):wpAny (model X.prog X.w) X.A (eval (.Name x pos) X.env) Q E s :=
 Calls.Name_function_global I.ok.kind hg (Calls.loadGlobal_global (by rw[I.ok.glob];exact I.mod.glob.keeps I.bk) hm h) hd
theorem zid{E:zVP}{pins:zAO}{s:Shared}{σ:St}{H:Hp}{x:Str}{u:Value}{pos:Pos}{Q:zVP}(I:Inv X pins σ H s)(hg:Gl X x)(hm:X.mg x=none)(hv:bootBuiltins x=some u)(h:Q u s)
   (hn:x≠"__name__":=by decide) (hd:(x==("__debug__":Str))=false:=by decide):wpAny (model X.prog X.w) X.A (eval (.Name x pos) X.env) Q E s:=by
 obtain⟨mb,h1,h2⟩:=I.mod.blt;exact Calls.Name_function_global I.ok.kind hg (Calls.loadGlobal_builtin (by rw[I.ok.glob];exact I.mod.glob.keeps I.bk) hm (by rw[I.ok.blt];exact h1.keeps I.bk) ((h2 x hn).trans hv) h) hd
theorem znu{x:Str}{v:V}{u:Value}{pos:Pos}(hg:Gl X x)(hm:X.mg x=some u)(r:RelV v u)(hd:(x==("__debug__":Str))=false:=by decide):PE X (.Name x pos) (tC v) :=
 fun _ _ _ H _ I h=>zak I hg hm ⟨v,H,I,r,h⟩ hd
variable {a b:Expr}{ta tb:TE}{pos:Pos}
def tB(t:TE):TT:=fun σ H Q=>t σ H fun x H1=>∃c,x=.bl c/\Q c H1
theorem zxr{e:Expr}{t:TE}(h:PE X e t)(he:∀whole,isTrue e X.env whole=(do let v <-whole;standAt e.pos;holding [v] (truthy v)):=by intro _;rfl):PT X e (tB t):=by intro pins s σ H Q I hw;refine isTrue_plain (thn (h pins s σ H _ I hw) fun v s1 ⟨x,H1,I1,r1,q1⟩=>?_) (he _);obtain⟨d,rfl,q⟩:=q1;cases r1;exact z6i ⟨H1,I1,q⟩
variable {tA tB':TT}{rest:List Expr}
def z39(t u:TT):TT:=fun σ H Q=>t σ H fun c H1=>if c=true then u σ H1 Q else Q false H1
def tOr(t u:TT):TT:=fun σ H Q=>t σ H fun c H1=>if c=true then Q true H1 else u σ H1 Q
def z34(t:TT):TT:=fun σ H Q=>t σ H fun c H1=>Q (!c) H1
theorem zub(ha:PT X a tA):PW X (.BoolOp .And [a] pos) tA:=by
 intro wh pins s σ H Q I h;refine isTrue_and (thn (ha pins s σ H Q I h) fun c s1 e=>?_);cases c with
 |true=>exact isTrue_and_nil e
 |false=>exact e
theorem zxn(ha:PT X a tA):PW X (.BoolOp .Or [a] pos) tA:=by
 intro wh pins s σ H Q I h;refine isTrue_or (thn (ha pins s σ H Q I h) fun c s1 e=>?_);cases c with
 |false=>exact isTrue_or_nil e
 |true=>exact e
theorem zxo(ha:PT X a tA)(hb:PW X (.BoolOp .And (b::rest) pos) tB'):PW X (.BoolOp .And (a::b::rest) pos) (z39 tA tB'):=by
 intro wh pins s σ H Q I h;refine isTrue_and (thn (ha pins s σ H _ I h) fun c s1 ⟨H1,I1,q1⟩=>?_);cases c with
 |true=>exact hb wh pins s1 σ H1 Q I1 q1
 |false=>exact⟨H1,I1,q1⟩
theorem z1k(ha:PT X a tA)(hb:PW X (.BoolOp .Or (b::rest) pos) tB'):PW X (.BoolOp .Or (a::b::rest) pos) (tOr tA tB'):=by
 intro wh pins s σ H Q I h;refine isTrue_or (thn (ha pins s σ H _ I h) fun c s1 ⟨H1,I1,q1⟩=>?_);cases c with
 |true=>exact⟨H1,I1,q1⟩
 |false=>exact hb wh pins s1 σ H1 Q I1 q1
theorem zxs(ha:PT X a tA):PT X (.UnaryOp .Not a pos) (z34 tA):=by intro pins s σ H Q I h;exact isTrue_not (ha pins s σ H (fun c H1=>Q (!c) H1) I h)
def z05(ta:TE):TE:=fun σ H Q=>ta σ H fun x H1=>∃c,x=.bl c/\Q (.bl (!c)) H1
theorem zx2(ha:PE X a ta):PE X (.UnaryOp .Not a pos) (z05 ta):=by intro pins s σ H Q I h;refine UnaryOp_ (thn (ha pins s σ H _ I h) fun v s1 ⟨x,H1,I1,r1,q1⟩=>?_);obtain⟨c,rfl,q1⟩:=q1;cases r1;exact not_of (z6i ⟨.bl (!c),H1,I1,rfl,q1⟩)
end
def SqL(K:zFr)(H:Hp)(a:Addr)(xs:List V):Prop :=
 Rd H a (.lst xs) \/
   ∃(o:Obj) (its:Array Value) (n:Nat),K.lookup a=some o/\o.cls=.type "list"/\o.dict=none/\o.data=.seq its n/\its.size<=sizeLine/\Vals xs its.toList
def SqT(K:zFr)(H:Hp)(a:Addr)(xs:List V):Prop :=
 Rd H a (.tup xs) \/
   ∃(o:Obj) (its:Array Value) (n:Nat),K.lookup a=some o/\o.cls=.type "tuple"/\o.data=.seq its n/\its.size<=sizeLine/\Vals xs its.toList
def z4t:Value->Option V
 | .none=>some .non
 | .bool b=>some (.bl b)
 | .int i _=>some (.int i)
 | .str x _=>some (.str x)
 | .bytes b _=>some (.byt b)
 | .float b _=>some (.flt b)
 | .ref a=>some (.ref a)
 | .type n=>some (.ty n)
 |_=>none
theorem RelV.abs{x:V}{u:Value}(r:RelV x u):z4t u=some x:=by
 cases x with
 |non=>cases r;rfl
 |bl _=>cases r;rfl
 |int _=>obtain⟨t,rfl⟩:=r;rfl
 |str _=>obtain⟨t,rfl⟩:=r;rfl
 |byt _=>obtain⟨t,rfl⟩:=r;rfl
 |flt _=>obtain⟨t,rfl⟩:=r;rfl
 |ref _=>cases r;rfl
 |ty _=>cases r;rfl
theorem RelV.inj{x y:V}{u:Value}(r:RelV x u)(q:RelV y u):x=y:=z5s (r.abs.symm.trans q.abs)
theorem Vals.inj:∀{xs ys:List V}{us:List Value},Vals xs us->Vals ys us->xs=ys
 |_,_,_,.nil,.nil=>rfl
 |_,_,_,.cons r t,.cons r' t'=>by rw[r.inj r',Vals.inj t t']
section
variable {X:Cx}{pins:zAO}{σ:St}{H:Hp}{s:Shared}{a:Addr}{xs ys:List V}
theorem SqL.of{K:zFr}(h:H a=some (.lst xs)):SqL K H a xs:=.inl (.inl h)
theorem Inv.list(I:Inv X pins σ H s)(h:SqL X.K H a xs):∃its:List Value,Vals xs its/\PlainL s.heap a its.toArray/\xs.length<=sizeLine:=by
 rcases h with h | ⟨o,its,n,hk,hc,hd,hs,hz,r⟩
 · obtain⟨z,its,n,r,e⟩:=h.ok I.hok;exact⟨its,r,⟨_,n,e,rfl,rfl,rfl⟩,z⟩
 · refine⟨its.toList,r,⟨o,n,I.kIn a o hk,hc,hd,by simpa using hs⟩,?_⟩;have e:=r.length;simp only[Array.length_toList]at e;omega
theorem Inv.tuple(I:Inv X pins σ H s)(h:SqT X.K H a xs):∃its:List Value,Vals xs its/\IsTup s.heap a its.toArray/\xs.length<=sizeLine:=by
 rcases h with h | ⟨o,its,n,hk,hc,hs,hz,r⟩
 · obtain⟨z,its,r,p⟩:=h.ok I.hok;exact⟨its,r,p,z⟩
 · refine⟨its.toList,r,⟨o,I.kIn a o hk,hc,n,by simpa using hs⟩,?_⟩;have e:=r.length;simp only[Array.length_toList]at e;omega
theorem Inv.list_inj(I:Inv X pins σ H s)(h:SqL X.K H a xs)(h':SqL X.K H a ys):xs=ys:=by
 obtain⟨its,r,⟨o,n,e,_,_,d⟩,_⟩:=I.list h;obtain⟨its',r',⟨o',n',e',_,_,d'⟩,_⟩:=I.list h';rw[e]at e';cases e';rw[d]at d';injection d' with d1 _;have:its=its':=by simpa using z6w Array.toList d1
 subst this;exact r.inj r'
theorem Inv.tuple_inj(I:Inv X pins σ H s)(h:SqT X.K H a xs)(h':SqT X.K H a ys):xs=ys:=by
 obtain⟨its,r,⟨o,e,_,n,d⟩,_⟩:=I.tuple h;obtain⟨its',r',⟨o',e',_,n',d'⟩,_⟩:=I.tuple h';rw[e]at e';cases e';rw[d]at d';injection d' with d1 _;have:its=its':=by simpa using z6w Array.toList d1
 subst this;exact r.inj r'
end
abbrev Cx.wish(X:Cx)(E:zVP):Cx:={ X with xe:=E }
abbrev Cx.nox(X:Cx):Cx:=X.wish fun _ _=>False
theorem Cx.Ok.wish{X:Cx}(ok:X.Ok)(E:zVP):(X.wish E).Ok :=
 ⟨ok.mod,ok.kind,ok.glob,ok.blt,ok.above,ok.inj,ok.has,ok.cab,ok.hd,ok.frames,ok.stk,ok.exf,ok.bs,ok.bsz,ok.noex,ok.exfs,ok.funs,ok.frf⟩
theorem Cx.Ok.unwish{X:Cx}{E:zVP}(ok:(X.wish E).Ok):X.Ok :=
 ⟨ok.mod,ok.kind,ok.glob,ok.blt,ok.above,ok.inj,ok.has,ok.cab,ok.hd,ok.frames,ok.stk,ok.exf,ok.bs,ok.bsz,ok.noex,ok.exfs,ok.funs,ok.frf⟩
section
variable {X:Cx}{pins:zAO}{σ:St}{H:Hp}{s:Shared}{E:zVP}
theorem Inv.wish(I:Inv X pins σ H s)(E:zVP):Inv (X.wish E) pins σ H s:=⟨I.ok.wish E,I.os,I.bare,I.base,I.loc,I.cell,I.free,I.freeC,I.pin,I.hok,I.len⟩
theorem Inv.unwish(I:Inv (X.wish E) pins σ H s):Inv X pins σ H s:=⟨I.ok.unwish,I.os,I.bare,I.base,I.loc,I.cell,I.free,I.freeC,I.pin,I.hok,I.len⟩
theorem SP.unwish{D:Ends}{f:Flow}{s':Shared}(h:SP (X.wish E) pins D f s'):SP X pins D f s':=by
 cases f with
 |next=>obtain⟨σ',H',I,q⟩:=h;exact⟨σ',H',I.unwish,q⟩
 |brk=>obtain⟨σ',H',I,q⟩:=h;exact⟨σ',H',I.unwish,q⟩
 |cont=>obtain⟨σ',H',I,q⟩:=h;exact⟨σ',H',I.unwish,q⟩
 |ret u=>obtain⟨v,σ',H',I,r,q⟩:=h;exact⟨v,σ',H',I.unwish,r,q⟩
theorem PSs.nox{st:List Stmt}{t:TS}(h:PSs X.nox st t):PSs X st t:=fun pins s σ H D I hw=>
 z7t (h pins s σ H D (I.wish _) hw) (fun _ _ q=>q.unwish) fun _ _ z=>False.elim z
end
section
variable {X:Cx}{st:Stmt}{rest:List Stmt}{t u:TS}{e:Expr}{te:TE}{pos:Pos}
def z07:TS:=fun D σ H=>D.nx σ H
def z31(t u:TS):TS:=fun D σ H=>t { D with nx:=u D } σ H
theorem zuf:PSs X [] z07:=fun _ _ σ H _ I h=>z7h ⟨σ,H,I,h⟩
theorem zqn(h1:PS X st t)(h2:PSs X rest u):PSs X (st::rest) (z31 t u):=by
 intro pins s σ H D I h;refine z6r (thn (h1 pins s σ H { D with nx:=u D } I h) fun f s1 q=>?_);cases f with
 | next=>
   obtain⟨σ',H',I',q⟩:=q;exact h2 pins s1 σ' H' D I' q
 |ret v=>exact q
 |brk=>exact q
 |cont=>exact q
theorem zue(h1:PS X st t):PSs X [st] t:=by
 intro pins s σ H D I h;refine z6r (thn (h1 pins s σ H D I h) fun f s1 q=>?_);cases f with
 |next=>exact z7h q
 |ret v=>exact q
 |brk=>exact q
 |cont=>exact q
theorem Inv.quiet{pins:zAO}{σ:St}{H:Hp}{s:Shared}(I:Inv X pins σ H s):interactive X.env=false:=by simp[interactive,I.ok.kind]
def z08(te:TE):TS:=fun D σ H=>te σ H fun _ H1=>D.nx σ H1
theorem znr(he:PE X e te)(hs:swapsWith e none pos.line X.env=pure false:=by rfl):PS X (.Expr e pos) (z08 te):=by intro pins s σ H D I h;exact wpAny_Expr_any (thn (he pins s σ H _ I h) fun v s1 ⟨x,H1,I1,r1,q1⟩=>⟨σ,H1,I1,q1⟩) I.quiet hs
def z33(te:TE):TS:=fun D σ H=>te σ H D.rt
theorem zxu(he:PE X e te):PS X (.Return (some e) pos) (z33 te):=by intro pins s σ H D I h;exact wpAny_Return_some (thn (he pins s σ H _ I h) fun v s1 ⟨x,H1,I1,r1,q1⟩=>⟨x,σ,H1,I1,r1,q1⟩)
def z03:TS:=fun D _ H=>D.rt .non H
theorem zug:PS X (.Return none pos) z03:=fun _ _ σ H _ I h=>wpAny_Return_none ⟨.non,σ,H,I,rfl,h⟩
def z36(c:TT)(t u:TS):TS:=fun D σ H=>c σ H fun b H1=>if b=true then t D σ H1 else u D σ H1
theorem z1n{c:Expr}{a b:List Stmt}{tc:TT}(hc:PT X c tc)(ha:PSs X a t)(hb:PSs X b u):PS X (.If c a b pos) (z36 tc t u):=by
 intro pins s σ H D I h;refine wpAny_If (thn (hc pins s σ H _ I h) fun d s1 ⟨H1,I1,q1⟩=>?_);cases d with
 |true=>exact ha pins s1 σ H1 D I1 q1
 |false=>exact hb pins s1 σ H1 D I1 q1
def zwp:TS:=fun _ _ _=>False
theorem zqo:PS X st zwp:=fun _ _ _ _ _ _ h=>h.elim
end
abbrev TG:=V->St->Hp->(St->Hp->Prop)->Prop
abbrev TGs:=List V->St->Hp->(St->Hp->Prop)->Prop
def PG(X:Cx)(target:Expr)(t:TG):Prop :=
 ∀(pins:zAO) (s:Shared) (σ:St) (H:Hp) (v:V) (u:Value) (Q:St->Hp->Prop),Inv X pins σ H s->RelV v u->t v σ H Q ->
   wpAny (model X.prog X.w) X.A (assign target X.env u) (fun _ s'=>∃σ' H',Inv X pins σ' H' s'/\Q σ' H') X.xe s
def PGs(X:Cx)(ts:List Expr)(t:TGs):Prop :=
 ∀(pins:zAO) (s:Shared) (σ:St) (H:Hp) (vs:List V) (us:List Value) (Q:St->Hp->Prop),Inv X pins σ H s->Vals vs us->t vs σ H Q ->
   wpAny (model X.prog X.w) X.A (assignInOrder ((assignEach ts X.env).map (·.2)) us) (fun _ s'=>∃σ' H',Inv X pins σ' H' s'/\Q σ' H') X.xe s
abbrev z3a:=V->V->V->Hp->(Hp->Prop)->Prop
def z3y(X:Cx)(t:z3a):Prop :=
 ∀(pins:zAO) (s:Shared) (σ:St) (H:Hp) (o i v:V) (ov iv u:Value) (Q:Hp->Prop),Inv X pins σ H s->RelV o ov->RelV i iv->RelV v u->t o i v H Q ->
   wpAny (model X.prog X.w) X.A (setItem ov iv u) (fun _ s'=>∃H',Inv X pins σ H' s'/\Q H') X.xe s
section
variable {X:Cx}{pos:Pos}
def zif(i:Nat):TG:=fun v σ H Q=>Q (σ.set i (some v)) H
theorem zgz{i:Nat}{x:Str}(hN:X.N.Nodup)(hi:X.N[i]? = some x)(hx:Loc X.env.scope x)(hf:X.fn x=true\/X.env.scope.names.lookup x=some .local:=by first | exact .inl rfl | exact .inr rfl | assumption):PG X (.Name x pos) (zif i):=by intro pins s σ H v u Q I r h;exact wpAny_assign_Name (zd9 I hN hi hx r (fun s' I'=>⟨_,H,I',h⟩) hf)
def z3s:TGs:=fun vs σ H Q=>vs=[]/\Q σ H
def zri(t:TG)(u:TGs):TGs:=fun vs σ H Q=>∃v r,vs=v::r/\t v σ H fun σ' H'=>u r σ' H' Q
theorem zuk:PGs X [] z3s:=by intro pins s σ H vs us Q I r h;obtain⟨e,h⟩:=h;subst e;cases r;exact assignInOrder_nil ⟨σ,H,I,h⟩
theorem zqq{e:Expr}{es:List Expr}{t:TG}{u:TGs}(h1:PG X e t)(h2:PGs X es u)
   (hs:(assignEach (e::es) X.env).map (·.2)=assign e X.env::(assignEach es X.env).map (·.2):=by rfl):PGs X (e::es) (zri t u):=by
 intro pins s σ H vs us Q I r h;obtain⟨v,vr,e1,h⟩:=h;subst e1;cases r with
 | cons r rr=>
   rw[hs];refine assignInOrder_cons (thn (h1 pins s σ H _ _ _ I r h) fun _ s1 ⟨σ1,H1,I1,q1⟩=>?_);exact h2 pins s1 σ1 H1 _ _ Q I1 rr q1
def z4m(K:zFr)(n:Nat)(t:TGs):TG:=fun v σ H Q=>∃a xs,v=.ref a/\SqT K H a xs/\xs.length=n/\t xs σ H Q
theorem zxy{es:List Expr}{k:Nat}{t:TGs}{n:Nat}(hc:X.calm=true)(h:PGs X es t)
   (hn:(assignEach es X.env).length=n:=by rfl) (hst:(assignEach es X.env).findIdx? (·.1)=none:=by rfl):PG X (.Tuple es k pos) (z4m X.K n t):=by
 intro pins s σ H v u Q I r hw;obtain⟨a,xs,e1,hq,hl,hw⟩:=hw;subst e1;cases r;obtain⟨its,rv,ht,hz⟩:=I.tuple hq;refine assign_Tuple_tuple (I.ok.hd hc) ht (by simp[hn,<-hl,rv.length]) hst fun h' hx=>?_;have I1:Inv X pins σ H { s with heap:=h' }:=I.kept (t':=s.toks) fun b o e=>hx b o (z5n (z5c e)) e;exact h pins _ σ H xs _ Q I1 (by simpa using rv) hw
def z4n(to ti:TE)(t:z3a):TG:=fun v σ H Q=>to σ H fun o H1=>ti σ H1 fun i H2=>t o i v H2 fun H3=>Q σ H3
theorem zxz{o i:Expr}{to ti:TE}{t:z3a}(ho:PE X o to)(hi:PE X i ti)(hs:z3y X t)
   (ha:∀v,assign (.Subscript o i pos) X.env v=(do
     let ov <-holding [v] (eval o X.env)
     let iv <-holding [v,ov] (eval i X.env)
     standAt pos
     holding [v,ov,iv] (setItem ov iv v)
     release [v,ov,iv] []):=by intro _;rfl):PG X (.Subscript o i pos) (z4n to ti t):=by
 intro pins s σ H v u Q I r h;rw[ha];refine z40 (wpAny_holding (thn (ho pins s σ H _ I h) fun ov s1 ⟨x,H1,I1,r1,q1⟩=>?_));refine z40 (wpAny_holding (thn (hi pins s1 σ H1 _ I1 q1) fun iv s2 ⟨y,H2,I2,r2,q2⟩=>?_));refine z40 (z7i (z40 (wpAny_holding (thn (hs pins s2 σ H2 x y v ov iv u _ I2 r1 r2 r q2) fun _ s3 ⟨H3,I3,q3⟩=>?_))));exact wpAny_release ⟨σ,H3,I3,q3⟩
def z3f(te:TE)(g:TG):TS:=fun D σ H=>te σ H fun x H1=>g x σ H1 D.nx
theorem zsi{tg e:Expr}{te:TE}{g:TG}(he:PE X e te)(hg:PG X tg g)(hs:swapsWithSole [tg] e pos.line X.env=pure false:=by rfl)(hw:swappedStores [tg] e X.env=pure none:=by rfl)
   (h1:(assignEach [tg] X.env).map (·.2)=[assign tg X.env]:=by rfl):PS X (.Assign [tg] e pos) (z3f te g):=by
 intro pins s σ H D I h;refine wpAny_Assign_stores (thn (he pins s σ H _ I h) fun v s1 ⟨x,H1,I1,r1,q1⟩=>?_) hs hw;rw[h1];exact thn (hg pins s1 σ H1 x v _ I1 r1 q1) fun _ s2 q=>q
theorem zxt{i:Nat}{x:Str}{e:Expr}{te:TE}{pos':Pos}(hN:X.N.Nodup)(hi:X.N[i]? = some x)(hx:Loc X.env.scope x)(he:PE X e te)(hs:swapsWith e (some (.Name x pos')) pos.line X.env=pure false:=by rfl)(hf:X.fn x=true\/X.env.scope.names.lookup x=some .local:=by first | exact .inl rfl | exact .inr rfl | assumption) :
   PS X (.Assign [.Name x pos'] e pos) (z3f te (zif i)):=by
 intro pins s σ H D I h;refine wpAny_Assign_Name (thn (he pins s σ H _ I h) fun v s1 ⟨y,H1,I1,r1,q1⟩=>?_) hs;exact zd9 I1 hN hi hx r1 (fun s2 I2=>⟨_,H1,I2,q1⟩) hf
end
structure It where
 go:Nat->Hp->Prop
 yld:Nat->Hp->V->Hp->Prop
 stop:Nat->Hp->Prop
def zpu(X:Cx)(pins:zAO)(H:Hp)(b:Addr):Prop :=
 H b=none/\b≠X.env.locals/\b∉X.fs/\(b∈X.ex\/X.s₀.heap.objs.size<=b)/\(∀x c,X.env.cells.lookup x=some c->c≠b)/\∀p∈X.pn++pins,p.1≠b
theorem Inv.fpOk{X:Cx}{pins:zAO}{σ:St}{H H':Hp}{s:Shared}{b:Addr}(I:Inv X pins σ H s)(hb:s.heap.objs.size<=b)(hn:H' b=none):zpu X pins H' b:=by
 refine⟨hn,z8g (z48 I.lt hb),I.nofs hb,.inr (z5p I.sz hb),fun x c e z=>?_,fun p hp z=>?_⟩
 · obtain⟨v,q⟩:=I.cell x c e;exact absurd (z48 q.lt (by rw[z];exact hb)) (z6k _)
 · exact absurd (z48 (z5c (I.pin p hp).1) (by rw[z];exact hb)) (z6k _)
structure Turn (P:Program) (w:World) (K:zFr) (tg:Expr) (J:It) (fp:List Addr) (it:Addr) (tn:Nat->Heap->Prop):Prop where
 mem:it∈fp
 obj:∀i h,tn i h->∀b∈fp,∃o,h.get? b=some o/\∀v,o.data≠.cell v
 keep:∀i h h',tn i h->(∀b∈fp,∀o,h.get? b=some o->h'.get? b=some o)->tn i h'
 item:∀(X:Cx),X.prog=P->X.w=w->X.K=K->X.calm=true->∀(i:Nat) (pins:zAO) (s:Shared) (σ:St) (H:Hp) (E:zVP),Inv X pins σ H s->(∀b∈fp,zpu X pins H b)->tn i s.heap->J.go i H ->
   wpAny (model P w) X.A (pyNext (.ref it)) (fun r s1=>∃u,r=some u /\
     wpAny (model P w) X.A (letOwnedTupleGo tg (.ref it) u) (fun _ s2=>∃x H',Inv X pins σ H' s2/\RelV x u/\J.yld i H x H'/\tn (i+1) s2.heap/\∀b∈fp,H' b=none) E s1) E s
 done:∀(X:Cx),X.prog=P->X.w=w->X.K=K->X.calm=true->∀(i:Nat) (pins:zAO) (s:Shared) (σ:St) (H:Hp) (E:zVP),Inv X pins σ H s->(∀b∈fp,zpu X pins H b)->tn i s.heap->J.stop i H ->
   wpAny (model P w) X.A (pyNext (.ref it)) (fun r s1=>r=none/\Inv X pins σ H s1) E s
 self:∀(A:Around) (i:Nat) (s:Shared) (Q:zVP) (E:zVP),tn i s.heap->Q (.ref it) s->wpAny (model P w) A (pyIter (.ref it)) Q E s
abbrev TI:=St->Hp->(It->Hp->Prop)->Prop
def PIE(X:Cx)(pins:zAO)(σ:St)(tg:Expr)(R:It->Hp->Prop)(itv:Value)(s2:Shared):Prop :=
 ∃(it:Addr) (fp:List Addr) (tn:Nat->Heap->Prop) (J:It) (H':Hp),itv=.ref it/\Inv X pins σ H' s2/\Turn X.prog X.w X.K tg J fp it tn/\tn 0 s2.heap/\(∀b∈fp,zpu X pins H' b)/\R J H'
def PI(X:Cx)(tg iter:Expr)(wi:TI):Prop :=
 ∀(pins:zAO) (s:Shared) (σ:St) (H:Hp) (R:It->Hp->Prop),Inv X pins σ H s->wi σ H R ->
   wpAny (model X.prog X.w) X.A (eval iter X.env) (fun v s1=>wpAny (model X.prog X.w) X.A (pyIter v) (PIE X pins σ tg R) X.xe s1) X.xe s
theorem zu1{M:Model}{A:Around}{E:zVP}{s:Shared}{tg:Expr}{it:Addr}{u:Value}{o:Obj}{n:String}{vs:Array Value}{Q:Unit->Shared->Prop}(ho:s.heap.get? it=some o)(hc:o.cls=.type n)(hd:o.data=.fields vs)
   (hn:["enumerate", "zip", "dict_itemiterator", "dict_reverseitemiterator", "odict_iterator", "itertools.zip_longest", "itertools.pairwise"].contains n=false) (hQ:Q () s):wpAny M A (letOwnedTupleGo tg (.ref it) u) Q E s:=by
 unfold letOwnedTupleGo;cases tg<;>first
   |exact z5e hQ
   | (cases u<;>first
       |exact z5e hQ
       | (refine z40 (wpAny_load ho ?_)
          rw[hc,hd];show wpAny M A (if(["enumerate", "zip", "dict_itemiterator", "dict_reverseitemiterator", "odict_iterator", "itertools.zip_longest", "itertools.pairwise"].contains n&&vs[0]?==some (rawInt _))=true then _ else _) Q E s;rw[z5l (by intro h;rw[hn,z83]at h;cases h)];exact z5e hQ))
def Itl(K:zFr)(a:Addr):It :=
 ⟨fun i H=>∃xs x,SqL K H a xs/\xs[i]? = some x,fun i H x H'=>H'=H/\∀xs,SqL K H a xs->xs[i]? = some x,fun i H=>∃xs,SqL K H a xs/\xs.length<=i⟩
def Itt(K:zFr)(a:Addr):It :=
 ⟨fun i H=>∃xs x,SqT K H a xs/\xs[i]? = some x,fun i H x H'=>H'=H/\∀xs,SqT K H a xs->xs[i]? = some x,fun i H=>∃xs,SqT K H a xs/\xs.length<=i⟩
def Itr(lo:Int)(n:Nat):It:=⟨fun i _=>i<n,fun i H x H'=>H'=H/\x=.int (lo+i),fun i _=>n<=i⟩
theorem zms{P:Program}{w:World}{K:zFr}{tg:Expr}(a it:Addr):Turn P w K tg (Itl K a) [it] it (fun i h=>h.IsListIter it a i) where
 mem:=by simp
 obj:=fun i h st b hb=>by
   have e:b=it:=by simpa using hb
   subst e;obtain⟨o,e,c,d⟩:=st;exact⟨o,e,fun v z=>by rw[d]at z;cases z⟩
 keep:=fun i h h' st k=>st.at fun o e=>k it (by simp) o e
 item:=by intro X hP hw hK hc i pins s σ H E I hf st hg;subst hP hw hK;obtain⟨xs,x,hq,hx⟩:=hg;obtain⟨its,rv,p,hz⟩:=I.list hq;obtain⟨u,hu,ru⟩:=rv.get hx;obtain⟨f0,f1,f2,f3,f4,f5⟩:=hf it (by simp);refine wpAny_pyNext_list_item st p.isList (x:=u) (by simpa using hu) fun h' st' sb=>?_;have I1:Inv X pins σ H { s with heap:=h' }:=I.turned (t':=s.toks) (fun b o hb e=>(sb.2 b hb).trans e) f0 f1 f3 f4 f5;obtain⟨o,e,c,d⟩:=id st';exact⟨u,rfl,zu1 (s:={ s with heap:=h' }) e c d (by decide) ⟨x,H,I1,ru,⟨rfl,fun ys hy=>by rw[I.list_inj hy hq];exact hx⟩,st',fun b hb=>(hf b hb).1⟩⟩
 done:=by intro X hP hw hK hc i pins s σ H E I hf st hg;subst hP hw hK;obtain⟨xs,hq,hx⟩:=hg;obtain⟨its,rv,p,hz⟩:=I.list hq;obtain⟨f0,f1,f2,f3,f4,f5⟩:=hf it (by simp);have hl:=rv.length;exact wpAny_pyNext_list_end (I.ok.hd hc) st p.isList (by simp;omega) fun h' eb=>⟨rfl,I.turned (t':=s.toks) (fun b o hb e=>eb b o hb e) f0 f1 f3 f4 f5⟩
 self:=fun _ _ _ _ _ st h=>wpAny_pyIter_listiter st h
theorem zlh{P:Program}{w:World}{K:zFr}{tg:Expr}(a it:Addr):Turn P w K tg (Itt K a) [it] it (fun i h=>h.IsTupleIter it a i) where
 mem:=by simp
 obj:=fun i h st b hb=>by
   have e:b=it:=by simpa using hb
   subst e;obtain⟨o,e,c,d⟩:=st;exact⟨o,e,fun v z=>by rw[d]at z;cases z⟩
 keep:=fun i h h' st k=>st.at fun o e=>k it (by simp) o e
 item:=by intro X hP hw hK hc i pins s σ H E I hf st hg;subst hP hw hK;obtain⟨xs,x,hq,hx⟩:=hg;obtain⟨its,rv,p,hz⟩:=I.tuple hq;obtain⟨u,hu,ru⟩:=rv.get hx;obtain⟨f0,f1,f2,f3,f4,f5⟩:=hf it (by simp);refine wpAny_pyNext_tuple_item st (show s.heap.IsTuple a its.toArray from p) (x:=u) (by simpa using hu) fun h' st' sb=>?_;have I1:Inv X pins σ H { s with heap:=h' }:=I.turned (t':=s.toks) (fun b o hb e=>(sb.2 b hb).trans e) f0 f1 f3 f4 f5;obtain⟨o,e,c,d⟩:=id st';exact⟨u,rfl,zu1 (s:={ s with heap:=h' }) e c d (by decide) ⟨x,H,I1,ru,⟨rfl,fun ys hy=>by rw[I.tuple_inj hy hq];exact hx⟩,st',fun b hb=>(hf b hb).1⟩⟩
 done:=by intro X hP hw hK hc i pins s σ H E I hf st hg;subst hP hw hK;obtain⟨xs,hq,hx⟩:=hg;obtain⟨its,rv,p,hz⟩:=I.tuple hq;obtain⟨f0,f1,f2,f3,f4,f5⟩:=hf it (by simp);have hl:=rv.length;exact wpAny_pyNext_tuple_end (I.ok.hd hc) st (show s.heap.IsTuple a its.toArray from p) (by simp;omega) fun h' eb=>⟨rfl,I.turned (t':=s.toks) (fun b o hb e=>eb b o hb e) f0 f1 f3 f4 f5⟩
 self:=fun _ _ _ _ _ st h=>wpAny_pyIter_tupleiter st h
theorem zli{P:Program}{w:World}{K:zFr}{tg:Expr}(it:Addr)(lo:Int)(n:Nat):Turn P w K tg (Itr lo n) [it] it (fun i h=>IsRangeIter h it (lo+(i:Nat)*1) ((n:Int)-(i:Nat)) 1) where
 mem:=by simp
 obj:=fun i h st b hb=>by
   have e:b=it:=by simpa using hb
   subst e;exact⟨_,st,fun v z=>by
     have z':Data.fields _=Data.cell v:=z;cases z'⟩
 keep:=fun i h h' st k=>k it (by simp) _ st
 item:=by intro X hP hw hK hc i pins s σ H E I hf st hg;subst hP hw hK;obtain⟨f0,f1,f2,f3,f4,f5⟩:=hf it (by simp);have W:=Walks.range (prog:=X.prog) (w:=X.w) (I.ok.hd hc) it lo 1 n;refine W.item i s _ _ hg st fun v h' tk hv st' kk=>?_;obtain⟨t,rfl⟩:=hv;have I1:Inv X pins σ H { s with heap:=h',toks:=tk }:=I.turned (fun b o hb e=>kk b o (by simpa using hb) e) f0 f1 f3 f4 f5;refine⟨_,rfl,zu1 (s:={ s with heap:=h',toks:=tk }) (n:="range_iterator") st' rfl rfl (by decide) ⟨.int (lo+i),H,I1,⟨t,?_⟩,⟨rfl,rfl⟩,st',fun b hb=>(hf b hb).1⟩⟩;rw[Int.mul_one]
 done:=by intro X hP hw hK hc i pins s σ H E I hf st hg;subst hP hw hK;obtain⟨f0,f1,f2,f3,f4,f5⟩:=hf it (by simp);exact wpAny_pyNext_range_end (I.ok.hd hc) st (by have:n<=i:=hg;omega) fun h' eb=>⟨rfl,I.turned (t':=s.toks) (fun b o hb e=>eb b o hb e) f0 f1 f3 f4 f5⟩
 self:=fun _ _ _ _ _ st h=>wpAny_pyIter_rangeiter st h
section
variable {X:Cx}{tg:Expr}
def z2f(K:zFr)(tl:TE):TI:=fun σ H R=>tl σ H fun x H1=>∃a,x=.ref a/\(∃xs,SqL K H1 a xs)/\R (Itl K a) H1
def z4k(K:zFr)(tl:TE):TI:=fun σ H R=>tl σ H fun x H1=>∃a,x=.ref a/\(∃xs,SqT K H1 a xs)/\R (Itt K a) H1
theorem zjj{l:Expr}{tl:TE}(hl:PE X l tl):PI X tg l (z2f X.K tl):=by
 intro pins s σ H R I h;refine thn (hl pins s σ H _ I h) fun v s1 ⟨x,H1,I1,r1,q1⟩=>?_;obtain⟨a,e,⟨xs,hq⟩,q⟩:=q1;subst e;cases r1;obtain⟨its,rv,p,hz⟩:=I1.list hq;refine wpAny_pyIter_list p.isList ?_;refine⟨s1.heap.objs.size,[s1.heap.objs.size],_,_,H1,rfl,I1.kept (t':=s1.toks) fun b o e=>z42 _ e,zms a _,⟨_,z5u _ rfl,rfl,rfl⟩,fun b hb=>?_,q⟩;have e:b=s1.heap.objs.size:=by simpa using hb
 subst e;exact I1.fpOk (z45 _) (I1.hok.fresh (z45 _))
theorem zxx{l:Expr}{tl:TE}(hl:PE X l tl):PI X tg l (z4k X.K tl):=by
 intro pins s σ H R I h;refine thn (hl pins s σ H _ I h) fun v s1 ⟨x,H1,I1,r1,q1⟩=>?_;obtain⟨a,e,⟨xs,hq⟩,q⟩:=q1;subst e;cases r1;obtain⟨its,rv,p,hz⟩:=I1.tuple hq;refine wpAny_pyIter_tuple (show s1.heap.IsTuple a its.toArray from p) ?_;refine⟨s1.heap.objs.size,[s1.heap.objs.size],_,_,H1,rfl,I1.kept (t':=s1.toks) fun b o e=>z42 _ e,zlh a _,⟨_,z5u _ rfl,rfl,rfl⟩,fun b hb=>?_,q⟩;have e:b=s1.heap.objs.size:=by simpa using hb
 subst e;exact I1.fpOk (z45 _) (I1.hok.fresh (z45 _))
theorem zqi{pins:zAO}{σ:St}{H:Hp}{s:Shared}{R:It->Hp->Prop}{E:zVP}{lo hi:Int}{t u v:Tok}{tk:Nat}(I:Inv X pins σ H s)(h1:-(2^62)<=lo)(h2:lo<2^62)(h3:-(2^62)<=hi)(h4:hi<2^62)
   (q:R (Itr lo (hi-lo).toNat) H):wpAny (model X.prog X.w) X.A (pyIter (.ref s.heap.objs.size)) (PIE X pins σ tg R) E { s with heap:=s.heap.push { cls:=.type "range",data:=.fields #[.int lo t,.int hi u,.int 1 v] },toks:=tk }:=by
 refine wpAny_pyIter_range (IsRange.new ..) (small_one h1 h2 h3 h4) ?_;have I1:Inv X pins σ H { s with heap:=s.heap.push { cls:=.type "range",data:=.fields #[.int lo t,.int hi u,.int 1 v] },toks:=tk }:=I.kept fun b o e=>z42 _ e;refine⟨(s.heap.push { cls:=.type "range",data:=.fields #[.int lo t,.int hi u,.int 1 v] }).objs.size,[(s.heap.push { cls:=.type "range",data:=.fields #[.int lo t,.int hi u,.int 1 v] }).objs.size],_,_,H,rfl,
   I1.kept (t':=tk) fun b o e=>z42 _ e,zli _ lo (hi-lo).toNat,?_,fun b hb=>?_,q⟩
 · have e1:lo+((0:Nat):Int)*1=lo:=by simp
   have e2:(((hi-lo).toNat:Nat):Int)-((0:Nat):Int)=Builtin.Range.rangeSize lo hi 1:=by rw[rangeSize_one];split<;>omega
   show IsRangeIter _ _ (lo+((0:Nat):Int)*1) ((((hi-lo).toNat:Nat):Int)-((0:Nat):Int)) 1;rw[e1,e2];exact z5u _ rfl
 · have e:b=(s.heap.push { cls:=.type "range",data:=.fields #[.int lo t,.int hi u,.int 1 v] }).objs.size:=by simpa using hb
   subst e;exact I1.fpOk (z45 _) (I1.hok.fresh (z45 _))
def z2e(ta:TA):TI:=fun σ H R=>ta σ H fun vs H1=>∃j:Int,vs=[.int j]/\-(2^62)<=j/\j<2^62/\R (Itr 0 j.toNat) H1
theorem zh7{a:Expr}{ta:TA}{p pos:Pos}(hg:Gl X "range")(hm:X.mg "range"=none)(ha:PA X [a] ta)(hs:starEach [a] X.env=[(false,eval a X.env)]:=by rfl):PI X tg (.Call (.Name "range" p) [a] [] pos) (z2e ta):=by
 intro pins s σ H R I h;refine Call_ (zid I hg hm boot_range (z6u (thn (ha pos pins s σ H _ I h) fun us s1 ⟨vs,H1,I1,r1,q1⟩=>?_) hs rfl));obtain⟨j,e,q1,q2,q⟩:=q1;subst e;cases r1 with
 | cons r rr=>
   cases rr;obtain⟨t,rfl⟩:=r;exact call_range_1 (zqi I1 (by omega) (by omega) q1 q2 (by simpa using q))
def z37(wi:TI)(g:TG)(tb:TS):TS:=fun D σ H=>wi σ H fun J H1=>∃W:Nat->Nat->St->Hp->Prop,(∃m,W 0 m σ H1)/\∀i m σ H,W i m σ H ->
 (J.stop i H/\D.nx σ H)\/(J.go i H/\∃N:St->Hp->Prop,(∀σ' H',N σ' H'->∃m',m'<m/\W (i+1) m' σ' H')/\∀x H',J.yld i H x H'->g x σ H' fun σ2 H2=>tb { D with nx:=N,ct:=N,bk:=D.nx } σ2 H2)
def zkq(fp:List Addr)(h:Heap):zAO:=fp.filterMap fun b=>(h.get? b).map fun o=>(b,o)
theorem zaf{fp:List Addr}{h:Heap}{b:Addr}{o:Obj}(hb:b∈fp)(e:h.get? b=some o):(b,o)∈zkq fp h:=List.mem_filterMap.mpr ⟨b,hb,by rw[e];rfl⟩
theorem zn2{fp:List Addr}{h:Heap}{p:Addr×Obj}(hp:p∈zkq fp h):p.1∈fp/\h.get? p.1=some p.2:=by
 obtain⟨b,hb,e⟩:=List.mem_filterMap.mp hp;cases q:h.get? b with
 |none=>rw[q]at e;cases e
 | some o=>
   rw[q]at e;have e':(b,o)=p:=z5s e;subst e';exact⟨hb,q⟩
theorem Inv.pinned{pins:zAO}{σ:St}{H:Hp}{s:Shared}{fp:List Addr}(I:Inv X pins σ H s)(hf:∀b∈fp,zpu X pins H b)(ho:∀b∈fp,∃o,s.heap.get? b=some o/\∀v,o.data≠.cell v):Inv X (pins++zkq fp s.heap) σ H s :=
 I.pins_of fun p hp=>(z6m.mp hp).elim (fun z=>I.pin p (z5f _ z)) fun z=>by obtain⟨hb,e⟩:=zn2 z;obtain⟨f0,f1,f2,_⟩:=hf p.1 hb;obtain⟨o,e',d⟩:=ho p.1 hb;rw[e]at e';cases e';exact⟨e,f0,f1,f2,d⟩
theorem Inv.unpinned{pins pl:zAO}{σ:St}{H:Hp}{s:Shared}(I:Inv X (pins++pl) σ H s):Inv X pins σ H s:=I.pins_of fun p hp=>I.pin p (z5f _ (z6z _ hp))
theorem zsh{iter:Expr}{body:List Stmt}{wi:TI}{g:TG}{tb:TS}{pos:Pos}(hp:PassesOwn (model X.prog X.w) X.A X.env X.xe)(hc:X.calm=true)(hi:PI X tg iter wi)(hg:PG X tg g)(hb:PSs X body tb)
   (hs:∀x,foldedSetIterable iter X.env x=pure x:=by intro _;rfl):PS X (.For tg iter body [] pos) (z37 wi g tb):=by
 intro pins s σ H D I h;refine wpAny_For (thn (hi pins s σ H _ I h) fun v s1 h1=>thn h1 fun itv s2 h2=>?_) hs;obtain⟨it,fp,tn,J,H2,e,I2,T,st2,f2,W,⟨m0,w0⟩,turn⟩:=h2;subst e;have stat:∀{H':Hp},(∀b∈fp,H' b=none)->∀b∈fp,zpu X pins H' b:=fun hn b hb=>⟨hn b hb,(f2 b hb).2⟩
 refine codeAny_forLoop_any (fun n s'=>∃i σ' H',Inv X pins σ' H' s'/\tn i s'.heap/\(∀b∈fp,H' b=none)/\W i n σ' H') ?_ m0 ⟨0,σ,H2,I2,st2,fun b hb=>(f2 b hb).1,w0⟩;rintro n s3 ⟨i,σ3,H3,I3,st3,fr3,w3⟩;rcases turn i n σ3 H3 w3 with⟨stop,qn⟩ | ⟨go,N,hN,step⟩
 · refine z7j hp (thn (T.done X rfl rfl rfl hc i pins s3 σ3 H3 X.xe I3 (stat fr3) st3 stop) fun r s4 ⟨hr,I4⟩=>?_);subst hr;exact z7h ⟨σ3,H3,I4,qn⟩
 · refine z7j hp (thn (T.item X rfl rfl rfl hc i pins s3 σ3 H3 X.xe I3 (stat fr3) st3 go) fun r s4 ⟨u,hr,h4⟩=>?_);subst hr;refine z7j hp (thn h4 fun _ s5 ⟨x,H5,I5,r5,y5,st5,fr5⟩=>?_);have I5':=I5.pinned (stat fr5) (T.obj _ _ st5);refine z7j hp (thn (hg _ s5 σ3 H5 x u _ I5' r5 (step x H5 y5)) fun _ s6 ⟨σ6,H6,I6,q6⟩=>?_);refine z7j hp (thn (hb _ s6 σ6 H6 _ I6 q6) fun f s7 q7=>?_);have again:∀{σ7:St}{H7:Hp},Inv X (pins++zkq fp s5.heap) σ7 H7 s7->N σ7 H7->∃m,m<n/\∃i σ' H',Inv X pins σ' H' s7/\tn i s7.heap/\(∀b∈fp,H' b=none)/\W i m σ' H':=fun {σ7 H7} I7 n7=>by obtain⟨m',hm,w7⟩:=hN σ7 H7 n7;refine⟨m',hm,i+1,σ7,H7,I7.unpinned,T.keep _ _ _ st5 fun b hb o e=>(I7.pin (b,o) (z5f _ (z5f _ (zaf hb e)))).1,fun b hb=>?_,w7⟩;obtain⟨o,e,d⟩:=T.obj _ _ st5 b hb;exact(I7.pin (b,o) (z5f _ (z5f _ (zaf hb e)))).2.1
   cases f with
   |next=>obtain⟨σ7,H7,I7,n7⟩:=q7;exact again I7 n7
   |cont=>obtain⟨σ7,H7,I7,n7⟩:=q7;exact again I7 n7
   |brk=>obtain⟨σ7,H7,I7,q7⟩:=q7;exact⟨σ7,H7,I7.unpinned,q7⟩
   |ret v=>obtain⟨x7,σ7,H7,I7,r7,q7⟩:=q7;exact⟨x7,σ7,H7,I7.unpinned,r7,q7⟩
end
theorem zrk{K:zFr}{a:Addr}{xs:List V}{g:TG}{tb:TS}{D:Ends}{σ:St}{H:Hp}(Pv:Nat->St->Hp->Prop)(h0:Pv 0 σ H)(hl:∀i σ H,i<=xs.length->Pv i σ H->SqL K H a xs)
   (hs:∀i x σ H,xs[i]? = some x->Pv i σ H->g x σ H fun σ2 H2=>tb { D with nx:=Pv (i+1),ct:=Pv (i+1),bk:=D.nx } σ2 H2) (hd:∀σ H,Pv xs.length σ H->D.nx σ H) :
   ∃W:Nat->Nat->St->Hp->Prop,(∃m,W 0 m σ H)/\∀i m σ H,W i m σ H ->
     ((Itl K a).stop i H/\D.nx σ H)\/((Itl K a).go i H/\∃N:St->Hp->Prop,(∀σ' H',N σ' H'->∃m',m'<m/\W (i+1) m' σ' H')/\∀x H',(Itl K a).yld i H x H'->g x σ H' fun σ2 H2=>tb { D with nx:=N,ct:=N,bk:=D.nx } σ2 H2):=by
 refine⟨fun i m σ H=>m=xs.length-i/\i<=xs.length/\Pv i σ H,⟨xs.length,by simp,z5t _,h0⟩,?_⟩;rintro i m σ H ⟨rfl,hi,p⟩;have q:=hl i σ H hi p;by_cases hlt:i<xs.length
 · refine .inr ⟨⟨xs,xs[i],q,by simp[hlt]⟩,Pv (i+1),fun σ' H' p'=>⟨xs.length-(i+1),by omega,rfl,hlt,p'⟩,fun x H' y=>?_⟩;obtain⟨e,y⟩:=y;subst e;exact hs i x σ _ (y xs q) p
 · have e:i=xs.length:=by omega
   subst e;exact .inl ⟨⟨xs,q,z45 _⟩,hd σ H p⟩
theorem zot{lo:Int}{n:Nat}{g:TG}{tb:TS}{D:Ends}{σ:St}{H:Hp}(Pv:Nat->St->Hp->Prop)(h0:Pv 0 σ H)
   (hs:∀i σ H,i<n->Pv i σ H->g (.int (lo+i)) σ H fun σ2 H2=>tb { D with nx:=Pv (i+1),ct:=Pv (i+1),bk:=D.nx } σ2 H2) (hd:∀σ H,Pv n σ H->D.nx σ H) :
   ∃W:Nat->Nat->St->Hp->Prop,(∃m,W 0 m σ H)/\∀i m σ H,W i m σ H ->
     ((Itr lo n).stop i H/\D.nx σ H)\/((Itr lo n).go i H/\∃N:St->Hp->Prop,(∀σ' H',N σ' H'->∃m',m'<m/\W (i+1) m' σ' H')/\∀x H',(Itr lo n).yld i H x H'->g x σ H' fun σ2 H2=>tb { D with nx:=N,ct:=N,bk:=D.nx } σ2 H2):=by
 refine⟨fun i m σ H=>m=n-i/\i<=n/\Pv i σ H,⟨n,by simp,z5t _,h0⟩,?_⟩;rintro i m σ H ⟨rfl,hi,p⟩;by_cases hlt:i<n
 · refine .inr ⟨hlt,Pv (i+1),fun σ' H' p'=>⟨n-(i+1),by omega,rfl,hlt,p'⟩,fun x H' y=>?_⟩;obtain⟨e,y⟩:=y;subst e y;exact hs i σ _ hlt p
 · have e:i=n:=by omega
   subst e;exact .inl ⟨z45 _,hd σ H p⟩
abbrev R2:=V->V->Hp->VK->Prop
def OpR(X:Cx)(f:Value->Value->Sem Value)(r:R2):Prop :=
 ∀(pins:zAO) (s:Shared) (σ:St) (H:Hp) (x y:V) (v u:Value) (Q:VK),Inv X pins σ H s->RelV x v->RelV y u->r x y H Q ->
   wpAny (model X.prog X.w) X.A (f v u) (EP X pins σ Q) X.xe s
def UnR(X:Cx)(f:Value->Sem Value)(r:V->Hp->VK->Prop):Prop :=
 ∀(pins:zAO) (s:Shared) (σ:St) (H:Hp) (x:V) (v:Value) (Q:VK),Inv X pins σ H s->RelV x v->r x H Q ->
   wpAny (model X.prog X.w) X.A (f v) (EP X pins σ Q) X.xe s
def CallR(X:Cx)(f:Value)(r:List V->Hp->VK->Prop):Prop :=
 ∀(pins:zAO) (s:Shared) (σ:St) (H:Hp) (xs:List V) (us:List Value) (Q:VK),Inv X pins σ H s->Vals xs us->r xs H Q ->
   wpAny (model X.prog X.w) X.A (call f us) (EP X pins σ Q) X.xe s
def tOp(r:R2)(ta tb:TE):TE:=fun σ H Q=>ta σ H fun x H1=>tb σ H1 fun y H2=>r x y H2 Q
def tUn(r:V->Hp->VK->Prop)(ta:TE):TE:=fun σ H Q=>ta σ H fun x H1=>r x H1 Q
def rI(C:Int->Int->Prop)(g:Int->Int->V):R2:=fun x y H Q=>∃i j,x=.int i/\y=.int j/\C i j/\Q (g i j) H
def rI0(g:Int->Int->V):R2:=fun x y H Q=>∃i j,x=.int i/\y=.int j/\Q (g i j) H
def rU(g:Int->V):V->Hp->VK->Prop:=fun x H Q=>∃i,x=.int i/\Q (g i) H
section
variable {X:Cx}{a b c:Expr}{ta tb tc:TE}{pos:Pos}
theorem z21(ha:PE X a ta)(hb:PE X b tb){pins:zAO}{s:Shared}{σ:St}{H:Hp}{R:V->V->Hp->Prop}(I:Inv X pins σ H s)
   (h:ta σ H fun x H1=>tb σ H1 fun y H2=>R x y H2) {Q:zVP}{f:Value->Value->Sem Value}
   (hf:∀v u s2 x y H2,Inv X pins σ H2 s2->RelV x v->RelV y u->R x y H2->wpAny (model X.prog X.w) X.A (f v u) Q X.xe s2) :
   wpAny (model X.prog X.w) X.A (eval a X.env) (fun v s₁=>wpAny (model X.prog X.w) X.A (eval b X.env) (fun u s₂=>wpAny (model X.prog X.w) X.A (f v u) Q X.xe s₂) X.xe s₁) X.xe s:=by
 refine thn (ha pins s σ H _ I h) fun v s1 ⟨x,H1,I1,r1,q1⟩=>?_;refine thn (hb pins s1 σ H1 _ I1 q1) fun u s2 ⟨y,H2,I2,r2,q2⟩=>?_;exact hf v u s2 x y H2 I2 r1 r2 q2
theorem z1q{op:Operator}{r:R2}(ho:OpR X (binaryOp op) r)(ha:PE X a ta)(hb:PE X b tb):PE X (.BinOp a op b pos) (tOp r ta tb):=by intro pins s σ H Q I h;exact wpAny_BinOp (z21 ha hb I h fun v u s2 x y H2 I2 rx ry q=>ho pins s2 σ H2 x y v u Q I2 rx ry q)
theorem z1p{op:UnaryOp}{r:V->Hp->VK->Prop}(ho:UnR X (unaryOp op) r)(ha:PE X a ta):PE X (.UnaryOp op a pos) (tUn r ta):=by intro pins s σ H Q I h;exact UnaryOp_ (thn (ha pins s σ H _ I h) fun v s1 ⟨x,H1,I1,r1,q1⟩=>ho pins s1 σ H1 x v Q I1 r1 q1)
theorem opI{f:Value->Value->Sem Value}{C:Int->Int->Prop}{g:Int->Int->Int}
   (rule:∀(i j:Int) (t u:Tok) (s:Shared) (Q:zVP) (E:zVP),C i j->Q (.int (g i j) s.toks) { s with toks:=s.toks+1 }->wpAny (model X.prog X.w) X.A (f (.int i t) (.int j u)) Q E s) :
   OpR X f (rI C fun i j=>.int (g i j)):=by
 intro pins s σ H x y v u Q I rx ry h;obtain⟨i,j,rfl,rfl,hc,q⟩:=h;obtain⟨t,rfl⟩:=rx;obtain⟨t',rfl⟩:=ry;exact rule i j t t' s _ _ hc ⟨.int (g i j),H,I.tok _,⟨_,rfl⟩,q⟩
theorem z3l{f:Value->Value->Sem Value}{g:Int->Int->Int}
   (rule:∀(i j:Int) (t u:Tok) (s:Shared) (Q:zVP) (E:zVP),Q (.int (g i j) s.toks) { s with toks:=s.toks+1 }->wpAny (model X.prog X.w) X.A (f (.int i t) (.int j u)) Q E s) :
   OpR X f (rI0 fun i j=>.int (g i j)):=by
 intro pins s σ H x y v u Q I rx ry h;obtain⟨i,j,rfl,rfl,q⟩:=h;obtain⟨t,rfl⟩:=rx;obtain⟨t',rfl⟩:=ry;exact rule i j t t' s _ _ ⟨.int (g i j),H,I.tok _,⟨_,rfl⟩,q⟩
theorem z0p{f:Value->Value->Sem Value}{g:Int->Int->Bool}
   (rule:∀(i j:Int) (t u:Tok) (s:Shared) (Q:zVP) (E:zVP),Q (.bool (g i j)) s->wpAny (model X.prog X.w) X.A (f (.int i t) (.int j u)) Q E s) :
   OpR X f (rI0 fun i j=>.bl (g i j)):=by
 intro pins s σ H x y v u Q I rx ry h;obtain⟨i,j,rfl,rfl,q⟩:=h;obtain⟨t,rfl⟩:=rx;obtain⟨t',rfl⟩:=ry;exact rule i j t t' s _ _ ⟨.bl (g i j),H,I,rfl,q⟩
def z4w(i j:Int):Prop:=0<j/\j<1073741824
def z4v(i j:Int):Prop:=0<=j/\j<=1000000/\i.natAbs<2^64
def CMul(i j:Int):Prop:=(-(2^64)<i/\i<2^64)\/(-(2^64)<j/\j<2^64)
theorem CMul.ok{i j:Int}(h:CMul i j):IntMulOk i j:=by
 rcases h with⟨h1,h2⟩ | ⟨h1,h2⟩
 · exact .of_left (intBits_le_64 h1 h2)
 · exact .of_right (intBits_le_64 h1 h2)
theorem op_add:OpR X (binaryOp .Add) (rI0 fun i j=>.int (i+j)):=z3l fun _ _ _ _ _ _ _ q=>add_int q
theorem zx8:OpR X (binaryOp .Sub) (rI0 fun i j=>.int (i-j)):=z3l fun _ _ _ _ _ _ _ q=>sub_int q
theorem zuq:OpR X (binaryOp .FloorDiv) (rI z4w fun i j=>.int (i/j)):=opI fun i j _ _ _ _ _ hc q=>by have h1:(0:Int)<j:=hc.1;have h2:j<1073741824:=hc.2;exact floordiv_int (by omega) (by rw[Int.fdiv_eq_ediv_of_nonneg i (by omega)];exact q) (.inl (PyProof.noPylong_small (by omega)))
theorem zyb:OpR X (binaryOp .Mod) (rI (fun _ j=>0<j) fun i j=>.int (i%j)):=opI fun i j _ _ _ _ _ hc q=>by have h1:(0:Int)<j:=hc;exact mod_int' (by omega) (by rw[Int.fmod_eq_emod_of_nonneg i (by omega)];exact q)
theorem zx9:OpR X (binaryOp .Pow) (rI z4v fun i j=>.int (i^j.toNat)):=opI fun _ _ _ _ _ _ _ hc q=>pow_int_small hc.1 hc.2.1 hc.2.2 q
theorem unI{f:Value->Sem Value}{g:Int->Int}
   (rule:∀(i:Int) (t:Tok) (s:Shared) (Q:zVP) (E:zVP),Q (.int (g i) s.toks) { s with toks:=s.toks+1 }->wpAny (model X.prog X.w) X.A (f (.int i t)) Q E s) :
   UnR X f (rU fun i=>.int (g i)):=by
 intro pins s σ H x v Q I rx h;obtain⟨i,rfl,q⟩:=h;obtain⟨t,rfl⟩:=rx;exact rule i t s _ _ ⟨.int (g i),H,I.tok _,⟨_,rfl⟩,q⟩
theorem zwk:UnR X (unaryOp .USub) (rU fun i=>.int (-i)):=unI fun _ _ _ _ _ q=>neg_int q
end
section
variable {X:Cx}{a b c:Expr}{ta tb tc:TE}{pos:Pos}
theorem zsr{pins:zAO}{σ:St}{H:Hp}{s:Shared}{Q:VK}{k k':Bool}(I:Inv X pins σ H s)(q:Q (.bl k) H)(e:k=k'):EP X pins σ Q (.bool k') s:=by subst e;exact⟨.bl k,H,I,rfl,q⟩
theorem zny:OpR X (compareOp .Lt) (rI0 fun i j=>.bl (decide (i<j))):=z0p fun _ _ _ _ _ _ _ q=>lt_int q
theorem zlw:OpR X (compareOp .LtE) (rI0 fun i j=>.bl (decide (i<=j))):=z0p fun _ _ _ _ _ _ _ q=>le_int q
theorem zyd:OpR X (compareOp .Gt) (rI0 fun i j=>.bl (decide (j<i))):=z0p fun _ _ _ _ _ _ _ q=>gt_int q
theorem z1x:OpR X (compareOp .GtE) (rI0 fun i j=>.bl (decide (j<=i))):=z0p fun _ _ _ _ _ _ _ q=>ge_int q
theorem op_isN:OpR X (compareOp .Is) (fun x y H Q=>y=.non/\Q (.bl (decide (x=.non))) H):=by
 intro pins s σ H x y v u Q I rx ry h;obtain⟨rfl,q⟩:=h;cases ry;refine is_none_gen (zsr I q ?_);cases x<;>first
   | (cases rx;rfl)
   | (obtain⟨t,rfl⟩:=rx;rfl)
theorem op_notN:OpR X (compareOp .IsNot) (fun x y H Q=>y=.non/\Q (.bl (!decide (x=.non))) H):=by
 intro pins s σ H x y v u Q I rx ry h;obtain⟨rfl,q⟩:=h;cases ry;refine isnot_none_gen (zsr I q ?_);cases x<;>first
   | (cases rx;rfl)
   | (obtain⟨t,rfl⟩:=rx;rfl)
theorem OpR.or{f:Value->Value->Sem Value}{r r':R2}(h:OpR X f r)(h':OpR X f r'):OpR X f (fun x y H Q=>r x y H Q\/r' x y H Q):=by
 intro pins s σ H x y v u Q I rx ry q;rcases q with q | q
 · exact h pins s σ H x y v u Q I rx ry q
 · exact h' pins s σ H x y v u Q I rx ry q
theorem za0(b:Expr){op:CmpOp}(h:op≠.In:=by decide)(h2:op≠.NotIn:=by decide):behindInMarks op b=false:=by
 have e1:(op==CmpOp.In)=false:=by cases op<;>first | rfl | exact absurd rfl h
 have e2:(op==CmpOp.NotIn)=false:=by cases op<;>first | rfl | exact absurd rfl h2
 cases b<;>simp[behindInMarks,e1,e2]
theorem zun{op:CmpOp}{r:R2}(ho:OpR X (compareOp op) r)(ha:PE X a ta)(hb:PE X b tb)(hm:behindInMarks op b=false):PE X (.Compare a [op] [b] pos) (tOp r ta tb):=by intro pins s σ H Q I h;exact wpAny_Compare1 (z21 ha hb I h fun v u s2 x y H2 I2 rx ry q=>ho pins s2 σ H2 x y v u Q I2 rx ry q) hm
def zp5(t:TE):TT:=fun σ H Q=>t σ H fun x H'=>∃k,x=.bl k/\Q k H'
theorem zud{op:CmpOp}{r:R2}(ho:OpR X (compareOp op) r)(ha:PE X a ta)(hb:PE X b tb)(hm:behindInMarks op b=false):PT X (.Compare a [op] [b] pos) (zp5 (tOp r ta tb)):=by
 intro pins s σ H Q I h;refine wpAny_isTrue_Compare1 (thn (ha pins s σ H _ I h) fun v s1 ⟨x,H1,I1,r1,q1⟩=>thn (hb pins s1 σ H1 _ I1 q1) fun u s2 ⟨y,H2,I2,r2,q2⟩=>
   thn (ho pins s2 σ H2 x y v u _ I2 r1 r2 q2) fun c s3 ⟨z,H3,I3,r3,k,e,q3⟩=>?_) hm
 subst e;cases r3;exact z6i ⟨H3,I3,q3⟩
def zr9(r r':R2)(ta tb tc:TE):TE:=fun σ H Q=>ta σ H fun x H1=>tb σ H1 fun y H2=>r x y H2 fun z H3=>∃k,z=.bl k /\
 (if k=true then tc σ H3 fun w' H4=>r' y w' H4 Q else Q (.bl false) H3)
theorem zko{op op':CmpOp}{r r':R2}(ho:OpR X (compareOp op) r)(ho':OpR X (compareOp op') r')(ha:PE X a ta)(hb:PE X b tb)(hc:PE X c tc)
   (hm:lastMarks [op,op'] [b,c]=false:=by with_unfolding_all rfl):PT X (.Compare a [op,op'] [b,c] pos) (zp5 (zr9 r r' ta tb tc)):=by
 intro pins s σ H Q I h;refine isTrue_chain (thn (ha pins s σ H _ I h) fun v s1 ⟨x,H1,I1,r1,q1⟩=>test_link (thn (hb pins s1 σ H1 _ I1 q1) fun u s2 ⟨y,H2,I2,r2,q2⟩=>
   thn (ho pins s2 σ H2 x y v u _ I2 r1 r2 q2) fun d s3 ⟨z,H3,I3,r3,k,e,q3⟩=>?_)) hm
 subst e;cases r3;refine z6i ?_;cases k with
 | false=>
   obtain⟨k',e',q'⟩:=q3;cases e';exact ite_ff ⟨H3,I3,q'⟩
 | true=>
   refine ite_tt (test_last (thn (hc pins s3 σ H3 _ I3 q3) fun w' s4 ⟨z',H4,I4,r4,q4⟩=>thn (ho' pins s4 σ H4 y z' u w' _ I4 r2 r4 q4) fun d' s5 ⟨z2,H5,I5,r5,k2,e2,q5⟩=>?_));subst e2;cases r5;exact z6i ⟨H5,I5,q5⟩
theorem zf8:(sizeLine:Nat)<2^63:=by rw[z55];decide
theorem op_add_str:OpR X (binaryOp .Add) (fun x y H Q=>∃i j,x=.str i/\y=.str j/\i.length+j.length<=sizeLine/\Q (.str (i++j)) H):=by intro pins s σ H x y v u Q I rx ry h;obtain⟨i,j,rfl,rfl,hz,q⟩:=h;obtain⟨t,rfl⟩:=rx;obtain⟨t',rfl⟩:=ry;exact add_str (fun t' tk=>⟨.str (i++j),H,I.tok _,⟨_,rfl⟩,q⟩) hz
theorem zlf{x:V}{us:List Value}(r:Vals [x] us):∃u,us=[u]/\RelV x u:=by
 cases r with
 |cons r1 r2=>cases r2;exact⟨_,rfl,r1⟩
theorem z01{x y:V}{us:List Value}(r:Vals [x,y] us):∃u w',us=[u,w']/\RelV x u/\RelV y w':=by
 cases r with
 | cons r1 r2=>
   cases r2 with
   |cons r3 r4=>cases r4;exact⟨_,_,rfl,r1,r3⟩
theorem zrv:CallR X (.builtin "abs") (fun xs H Q=>∃i,xs=[.int i]/\Q (.int (if i<0 then -i else i)) H):=by intro pins s σ H xs us Q I r h;obtain⟨i,rfl,q⟩:=h;obtain⟨u,rfl,t,rfl⟩:=zlf r;exact call_abs_int fun u tk=>⟨.int (if i<0 then -i else i),H,I.tok _,⟨_,rfl⟩,q⟩
theorem zpe(hc:X.calm=true):CallR X (.builtin "max") (fun xs H Q=>∃i j,xs=[.int i,.int j]/\Q (.int (if j>i then j else i)) H):=by
 intro pins s σ H xs us Q I r h;obtain⟨i,j,rfl,q⟩:=h;obtain⟨u,w',rfl,⟨t,rfl⟩,⟨t',rfl⟩⟩:=z01 r;refine max_two_ints (I.ok.hd hc) fun h' tk k=>⟨_,H,I.kept k,?_,q⟩
 by_cases hj:j>i
 · rw[z5o hj,z5o hj];exact⟨_,rfl⟩
 · rw[z5l hj,z5l hj];exact⟨_,rfl⟩
theorem zpf:CallR X (.type "int") (fun xs H Q=>(∃i,xs=[.int i]/\Q (.int i) H)\/∃k,xs=[.bl k]/\Q (.int (if k then 1 else 0)) H):=by
 intro pins s σ H xs us Q I r h;rcases h with⟨i,rfl,q⟩ | ⟨k,rfl,q⟩
 · obtain⟨u,rfl,t,rfl⟩:=zlf r;exact call_int_int ⟨.int i,H,I,⟨_,rfl⟩,q⟩
 · obtain⟨u,rfl,r1⟩:=zlf r;cases r1;exact call_int_bool ⟨.int (if k then 1 else 0),H,I.tok _,⟨_,rfl⟩,q⟩
end
structure ObjM (h:Heap) (x dx C:Addr) (mA:zMg):Prop where
 obj:h.get? x=some (PySem.W.instObj C dx)
 ns:h.Ns1 dx mA
 ne:dx≠x
theorem zic{h:Heap}{dx:Addr}{mA:zMg}(n:h.Ns1 dx mA):∃od,h.get? dx=some od/\∀name,PySem.W.lookIn name od=some (mA name):=by
 obtain⟨o,es,ep,ho,hd,hk,_,hm⟩:=n;refine⟨o,ho,fun name=>?_⟩;have e:=hm name;unfold nsFind findBy at e;rw[<-z8h]at e;unfold PySem.W.lookIn;rw[hd];dsimp only;split
 · rename_i y q;rw[q]at e;exact z6w some e
 · rename_i q;rw[q]at e;have a:es.toList.any (·.refKey)=false:=by rw[List.any_eq_false];intro y hy;obtain⟨z,t,hkey⟩:=hk y (Array.mem_toList_iff.mp hy);simp[DictEntry.refKey,hkey]
   have a':¬ es.toList.any (·.refKey)=true:=by rw[a];exact z58
   rw[z5l a'];exact z6w some e
theorem ObjM.look{h:Heap}{x dx C:Addr}{mA:zMg}(I:ObjM h x dx C mA):∃od,PySem.W.InstAt h x (PySem.W.instObj C dx) C (some od)/\∀name,PySem.W.lookIn name od=some (mA name) :=
 let⟨od,ho,hl⟩:=zic I.ns
 ⟨od,⟨I.obj,rfl,rfl,ho⟩,hl⟩
section
variable {prog:Program}{w:World}{A:Around}{E:zVP}{s:Shared}{K:zFr}{x dx C f:Addr}{mA:zMg}{name:Str}{v:Value}
theorem zu2{expr:Bool}{Q:zVP}(X:K.In s.heap)(I:ObjM s.heap x dx C mA)(hg:PySem.W.plainGet K C name=true)(hh:PySem.W.hasDictIn K C=true)
   (ha:PySem.W.findIn K (.ref C) name=some none) (hv:mA name=some v) (hv':PySem.W.handedIn v=true) (h:Q v { s with toks:=s.toks+1 }) :
   wpAny (model prog w) A (getAttr (.ref x) name expr) Q E s:=by
 obtain⟨od,J,hl⟩:=I.look;exact PySem.W.get_value X J (z78 hg).1 (PySem.W.findObj_own hh ha rfl (by rw[hl,hv])) hv' h
theorem zrg{pl:Sem Bool}{Q:Value×List Value->Shared->Prop}(X:K.In s.heap)(I:ObjM s.heap x dx C mA)(hg:PySem.W.plainGet K C name=true)
   (hf:PySem.W.findIn K (.ref C) name=some (some (.ref f))) (ht:PySem.W.isFn K (.ref f)=true) (hv:mA name=none) (h:Q (.ref f,[.ref x]) s) :
   wpAny (model prog w) A (getMethod (.ref x) name pl) Q E s:=by
 obtain⟨od,J,hl⟩:=I.look;exact PySem.W.method_fn X J (z78 hg).1 (z78 hg).2 hf (z6n.mp ht) (by show(PySem.W.lookIn name od).map (·.isSome)=some false;rw[hl,hv];rfl) h
theorem zt4{ns:List Str}{Q:Unit->Shared->Prop}(X:K.In s.heap)(I:ObjM s.heap x dx C mA)
   (hs:PySem.W.findIn K (.ref C) "__setattr__"=some (some (.builtin "object.__setattr__"))) (hp:PySem.W.plainOver K C=true) (ht:PySem.W.takerIn K C name=some none) (hh:PySem.W.hasDictIn K C=true)
   (hw:PySem.Within mA ns) (hsz:ns.length<=sizeLine)
   (h:∀h',ObjM h' x dx C (fun y=>if y=name then some v else mA y)->Heap.SameBut dx s.heap h'->Q () { s with heap:=h',toks:=s.toks+2 }) :
   wpAny (model prog w) A (setAttr (.ref x) name v) Q E s:=by
 obtain⟨od,J,hl⟩:=I.look;refine PySem.W.set_plain X J hs (PySem.W.osa_open (s:={ s with toks:=s.toks+1 }) (r:=none) X J hp ht fun b=>?_);obtain⟨cd,hc,hd'⟩:=PySem.W.any_some hh;have hx:s.heap.get? x=some ⟨.ref C,some dx,.plain,#[]⟩:=I.obj;refine z40 (z5e (z40 (z40 (z8j hx (z40 (PySem.W.Looks.here (s:={ s with toks:=s.toks+1 }) (PySem.W.looks_clsIn X hc) ?_))))));rw[hd'];refine z5e (a:=some dx) (z40 (z5e (z40 ?_)));refine wpAny_nsSet1 (s:={ s with toks:=s.toks+1 }) I.ns fun h' hn2 hs2=>?_;obtain⟨oD,esD,epD,hoD,hdD,hcD⟩:=hn2.count (PySem.Within.cons name v hw);refine z40 (wpAny_lookBehind hoD (by rw[hdD];exact pastItsLine_dict (z5p hcD (by rw[List.length_cons];omega))) ?_);exact z5e (h _ ⟨(hs2.2 _ (z5x I.ne)).trans I.obj,hn2,I.ne⟩ hs2)
theorem zq5{R:Result->Shared->Prop}{vs:List Value}{kw:List (Str×Value)}(X:K.In s.heap)(hm:PySem.W.makesIn K C=true)
   (hi:PySem.W.findIn K (.ref C) "__init__"=some (some (.ref f))) (hf:PySem.W.typeIn K (.ref f)=some (.type "function"))
   (h:codeAny (model prog w) (A.under (.builtin "type.__call__" ⟨.ref C::vs,kw⟩)) (.call (.ref f) ⟨.ref (s.heap.objs.size+1)::vs,kw⟩) (PySem.W.InitBack (s.heap.objs.size+1) R)
     { s with heap:=(s.heap.push PySem.W.emptyDict).push (PySem.W.instObj C s.heap.objs.size) }) :
   codeAny (model prog w) A (.call (.ref C) ⟨vs,kw⟩) R s:=by
 obtain⟨hh,g,d,t,os⟩:=s;exact PySem.W.make_core (PySem.W.makes_of X hm) (PySem.W.looks_findIn X hi) (fun self=>PySem.W.bind_fn X self hf) (.inl rfl) h
end
def zfp(f:Str)(v:V):List (Str×V)->List (Str×V)
 | []=>[(f,v)]
 | (g,x)::r=>if g=f then (g,v)::r else (g,x)::zfp f v r
theorem zez(f g:Str)(v:V):∀fs:List (Str×V),(zfp f v fs).lookup g=if g=f then some v else fs.lookup g
 | []=>by
   show List.lookup g [(f,v)]=_;by_cases h:g=f
   · have hb:(g==f)=true:=z6n.mpr h;simp only[List.lookup,hb,z5o h]
   · have hb:(g==f)=false:=z7b.mpr h;simp only[List.lookup,hb,z5l h]
 | (k,x)::r=>by
   have ih:=zez f g v r;rw[show zfp f v ((k,x)::r)=(if k=f then (k,v)::r else (k,x)::zfp f v r)from rfl];by_cases hk:k=f
   · rw[z5o hk];by_cases h:g=k
     · have hb:(g==k)=true:=z6n.mpr h;simp only[List.lookup,hb,z5o (h.trans hk)]
     · have hb:(g==k)=false:=z7b.mpr h;simp only[List.lookup,hb,z5l (fun e:g=f=>h (e.trans hk.symm))]
   · rw[z5l hk];by_cases h:g=k
     · have hb:(g==k)=true:=z6n.mpr h;simp only[List.lookup,hb,z5l (fun e:g=f=>hk (h.symm.trans e))]
     · have hb:(g==k)=false:=z7b.mpr h;simp only[List.lookup,hb];exact ih
theorem ze4(f:Str)(v:V):∀fs:List (Str×V),f∈(zfp f v fs).map (·.1)/\∀g,g∈fs.map (·.1)->g∈(zfp f v fs).map (·.1)
 | []=>⟨by simp[zfp],fun g h=>by simp at h⟩
 | (k,x)::r=>by
   obtain⟨i1,i2⟩:=ze4 f v r;rw[show zfp f v ((k,x)::r)=(if k=f then (k,v)::r else (k,x)::zfp f v r)from rfl];by_cases hk:k=f
   · rw[z5o hk];subst hk;exact⟨by simp,fun g h=>by simpa using h⟩
   · rw[z5l hk];refine⟨?_,fun g h=>?_⟩
     · rw[z5v];exact z5d _ i1
     · rw[z5v]at h ⊢;rcases z5z.mp h with e | e
       · exact z5z.mpr (.inl e)
       · exact z5d _ (i2 g e)
theorem ze1(f:Str)(v:V):∀fs:List (Str×V),(zfp f v fs).length<=fs.length+1
 | []=>by simp[zfp]
 | (k,x)::r=>by
   have ih:=ze1 f v r;rw[show zfp f v ((k,x)::r)=(if k=f then (k,v)::r else (k,x)::zfp f v r)from rfl];by_cases hk:k=f
   · rw[z5o hk,List.length_cons,List.length_cons];omega
   · rw[z5l hk,List.length_cons,List.length_cons];omega
theorem RelO.some_of{v:V}{o:Option Value}(r:RelO (some v) o):∃u,o=some u/\RelV v u:=by
 cases o with
 |none=>exact(show False from r).elim
 |some u=>exact⟨u,rfl,r⟩
theorem RelO.none_of{o:Option Value}(r:RelO none o):o=none:=by
 cases o with
 |none=>rfl
 |some u=>exact(show False from r).elim
theorem zie{v:V}{u:Value}(r:RelV v u):PySem.W.handedIn u=true:=by
 cases v with
 |non=>cases(show u=Value.none from r);rfl
 |bl b=>cases(show u=Value.bool b from r);rfl
 |int i=>obtain⟨t,e⟩:=(show ∃t,u=Value.int i t from r);cases e;rfl
 |str x=>obtain⟨t,e⟩:=(show ∃t,u=Value.str x t from r);cases e;rfl
 |byt b=>obtain⟨t,e⟩:=(show ∃t,u=Value.bytes b t from r);cases e;rfl
 |flt b=>obtain⟨t,e⟩:=(show ∃t,u=Value.float b t from r);cases e;rfl
 |ref a=>cases(show u=Value.ref a from r);rfl
 |ty n=>cases(show u=Value.type n from r);rfl
section
variable {P:Program}{w:World}{H H':Hp}{h h':Heap}{a C dx:Addr}{fs fs':List (Str×V)}
theorem zg4(hok:HOk P w H h)(e:H a=some (.ins C dx fs)):∃mA,ObjM h a dx C mA/\(∀f,RelO (fs.lookup f) (mA f))/\PySem.Within mA (fs.map (·.1))/\fs.length<=1000/\H dx=some (.own a):=by
 obtain⟨d,z,ne,ob,mA,n,r,q⟩:=(show ObjOk P w H h a (.ins C dx fs)from hok a _ e)
 exact⟨mA,⟨ob,n,ne⟩,r,q,z,d⟩
end
structure Cls (K:zFr) (C:Addr):Prop where
 pg:PySem.W.plainGet K C Str.empty=true
 hd:PySem.W.hasDictIn K C=true
 po:PySem.W.plainOver K C=true
 sa:PySem.W.findIn K (.ref C) "__setattr__"=some (some (.builtin "object.__setattr__"))
theorem Cls.get{K:zFr}{C:Addr}(c:Cls K C)(f:Str):PySem.W.plainGet K C f=true:=c.pg
def NoAttr(K:zFr)(C:Addr)(f:Str):Prop:=PySem.W.findIn K (.ref C) f=some none
theorem NoAttr.taker{K:zFr}{C:Addr}{f:Str}(n:NoAttr K C f):PySem.W.takerIn K C f=some none:=by unfold PySem.W.takerIn;rw[show PySem.W.findIn K (.ref C) f=some none from n];rfl
structure Meth (K:zFr) (C:Addr) (m:Str) (f:Addr):Prop where
 at_:PySem.W.findIn K (.ref C) m=some (some (.ref f))
 fn:PySem.W.isFn K (.ref f)=true
 kp:PySem.W.keepIn K (.ref f)=true
section
variable {X:Cx}{pins:zAO}{σ:St}{H:Hp}{s:Shared}{a C dx:Addr}{fs:List (Str×V)}{f:Str}{v:V}{A:Around}{E:zVP}
theorem zl4{b:Bool}{Q:zVP}(I:Inv X pins σ H s)(e:H a=some (.ins C dx fs))(c:Cls X.K C)(n:NoAttr X.K C f)(l:fs.lookup f=some v)
   (h:∀u s',Inv X pins σ H s'->RelV v u->Q u s'):wpAny (model X.prog X.w) A (getAttr (.ref a) f b) Q E s:=by
 obtain⟨mA,O,r,_,_,_⟩:=zg4 I.hok e;obtain⟨u,hu,ru⟩:=RelO.some_of (v:=v) (o:=mA f) (by rw[<-l];exact r f);exact zu2 I.kIn O (c.get f) c.hd n hu (zie ru) (h u _ (I.tok _) ru)
theorem zdl{m:Str}{g:Addr}{pl:Sem Bool}{Q:Value×List Value->Shared->Prop}(I:Inv X pins σ H s)(e:H a=some (.ins C dx fs))(c:Cls X.K C)(k:Meth X.K C m g)(l:fs.lookup m=none)
   (h:Q (.ref g,[.ref a]) s):wpAny (model X.prog X.w) A (getMethod (.ref a) m pl) Q E s:=by
 obtain⟨mA,O,r,_,_,_⟩:=zg4 I.hok e;have hn:mA m=none:=RelO.none_of (by rw[<-l];exact r m);exact zrg I.kIn O (c.get m) k.at_ k.fn hn h
theorem zlo{y:V}{u:Value}{Q:Unit->Shared->Prop}(I:Inv X pins σ H s)(e:H a=some (.ins C dx fs))(c:Cls X.K C)(n:NoAttr X.K C f)(hl:fs.length<1000)(ry:RelV y u)
   (h:∀s',Inv X pins σ (upd H a (.ins C dx (zfp f y fs))) s'->Q () s'):wpAny (model X.prog X.w) A (setAttr (.ref a) f u) Q E s:=by
 obtain⟨mA,O,r,wi,_,ho⟩:=zg4 I.hok e;have hz:(fs.map (·.1)).length<=sizeLine:=by rw[z6b,z55];omega
 refine zt4 I.kIn O c.sa c.po n.taker c.hd wi hz fun h' O' sb=>h _ ?_;have hd:∃o,h'.get? dx=some o:=let⟨o,_,_,e',_⟩:=O'.ns;⟨o,e'⟩;refine I.write (x:=a) (e:=dx) (by rw[e];exact True.intro) (.inr ho) (fun b q hb z=>(sb.2 b hb).trans z) hd ?_;refine⟨by rw[zz O.ne];exact ho,?_,O.ne,O'.obj,_,O'.ns,fun g=>?_,fun g hg=>?_⟩
 · have:=ze1 f y fs;omega
 · show RelO ((zfp f y fs).lookup g) (if g=f then some u else mA g);rw[zez];by_cases q:g=f
   · rw[z5o q,z5o q];exact ry
   · rw[z5l q,z5l q];exact r g
 · by_cases q:g=f
   · rw[q];exact(ze4 f y fs).1
   · refine(ze4 f y fs).2 g (wi g fun z=>hg ?_);show(if g=f then some u else mA g)=none;rw[z5l q];exact z
theorem Inv.made(I:Inv X pins σ H s):Inv X pins σ (upd (upd H s.heap.objs.size (.own (s.heap.objs.size+1))) (s.heap.objs.size+1) (.ins C s.heap.objs.size []))
   { s with heap:=(s.heap.push PySem.W.emptyDict).push (PySem.W.instObj C s.heap.objs.size) }:=by
 have e1:(s.heap.push PySem.W.emptyDict).get? s.heap.objs.size=some PySem.W.emptyDict:=z5u s.heap rfl;have e2:((s.heap.push PySem.W.emptyDict).push (PySem.W.instObj C s.heap.objs.size)).get? (s.heap.objs.size+1)=some (PySem.W.instObj C s.heap.objs.size):=by
   have:=z5u (s.heap.push PySem.W.emptyDict) (o:=PySem.W.instObj C s.heap.objs.size) rfl
   rwa [z8k]at this
 have e3:(s.heap.push PySem.W.emptyDict).Ns s.heap.objs.size (fun _=>none):=⟨PySem.W.emptyDict,#[],_,e1,rfl,(fun e he=>absurd he (by simp)),fun _=>rfl⟩
 have I1:=I.laid (a:=s.heap.objs.size) (o:=.own (s.heap.objs.size+1)) (h':=s.heap.push PySem.W.emptyDict) (t':=s.toks) (fun b u q=>z42 _ q) (z45 _) ⟨_,e1⟩;refine I1.laid (a:=s.heap.objs.size+1) (o:=.ins C s.heap.objs.size []) (t':=s.toks) (fun b u q=>z42 _ q) (z8v (z8k _ _)) ?_;have ne:s.heap.objs.size≠s.heap.objs.size+1:=z5n (z8q _);refine⟨by rw[zz ne,jh],z5t _,ne,e2,fun _=>none,(Heap.Ns1.of_empty e3).at fun o q=>z42 _ q,fun _=>True.intro,fun y hy=>absurd rfl hy⟩
theorem zpp{prog:Program}{w:World}{env:Env}{e:Expr}{f:Str}{pos:Pos}{s:Shared}{Q:zVP}(hb:attributeBase e f env (eval e env)=eval e env)
   (h:wpAny (model prog w) A (eval e env) (fun o s₁=>wpAny (model prog w) A (getAttr o f true) Q E s₁) E s):wpAny (model prog w) A (eval (.Attribute e f pos) env) Q E s :=
 Attribute_any_ h (by rw[arm_eval_Attribute,hb])
end
def z38(K:zFr)(ta:TE)(f:Str):TE:=fun σ H Q=>ta σ H fun x H1=>∃a C dx fs v,x=.ref a/\H1 a=some (.ins C dx fs)/\Cls K C/\NoAttr K C f/\fs.lookup f=some v/\Q v H1
def z4b(K:zFr)(ta tv:TE)(f:Str):TS:=fun D σ H=>tv σ H fun y H1=>ta σ H1 fun x H2=>∃a C dx fs,x=.ref a/\H2 a=some (.ins C dx fs)/\Cls K C/\NoAttr K C f/\fs.length<1000 /\
 D.nx σ (upd H2 a (.ins C dx (zfp f y fs)))
section
variable {X:Cx}{o e value:Expr}{f:Str}{pos pos' tpos:Pos}{ta tv:TE}
theorem zx5(he:PE X e ta)(hb:attributeBase e f X.env (eval e X.env)=eval e X.env):PE X (.Attribute e f pos) (z38 X.K ta f):=by intro pins s σ H Q I h;refine zpp hb (thn (he pins s σ H _ I h) fun u s1 ⟨x,H1,I1,rx,a,C,dx,fs,v,ex,ea,c,n,l,q⟩=>?_);subst ex;obtain rfl:u=Value.ref a:=rx;exact zl4 I1 ea c n l fun u' s2 I2 ru=>⟨v,H1,I2,ru,q⟩
theorem zxv(ha:PE X o ta)(hv:PE X value tv)(hs:swapsWith value (some (.Attribute o f pos')) pos.line X.env=pure false):PS X (.Assign [.Attribute o f pos'] value pos) (z4b X.K ta tv f):=by intro pins s σ H D I h;refine z7u (thn (hv pins s σ H _ I h) fun u s1 ⟨y,H1,I1,ry,q⟩=>thn (ha pins s1 σ H1 _ I1 q) fun ov s2 ⟨x,H2,I2,rx,a,C,dx,fs,ex,ea,c,n,l,q2⟩=>?_) hs;subst ex;obtain rfl:ov=Value.ref a:=rx;exact zlo I2 ea c n l ry fun s3 I3=>⟨σ,_,I3,q2⟩
end
structure Room (k:Nat) (A:Around):Prop where
 hd:A.handled=none
 dp:A.depth+3*k+5<recursionLimit
 un:A.units+16*k+200<cLine
 gd:A.guards=some []
theorem Room.mono{j k:Nat}{A:Around}(r:Room k A)(h:j<=k):Room j A:=⟨r.hd,by have:=r.dp;omega,by have:=r.un;omega,r.gd⟩
theorem Room.deeper{k:Nat}{A:Around}(r:Room (k+1) A)(env:Env):Room k (A.deeper env) :=
 ⟨r.hd,by have:=r.dp;show A.depth+1+3*k+5<_;omega,by have:=r.un;show A.units+3+16*k+200<_;omega,r.gd⟩
theorem zl1{A:Around}{C:Addr}{us:List Value}{kw:List (Str×Value)}:(A.under (.builtin "type.__call__" ⟨.ref C::us,kw⟩)).depth=A.depth+1:=by
 first | rfl | simp[Around.under,Code.weight,Code.isCreation,Code.isGuard,Code.isCaller,Code.frames,Code.isFrame,guardIds]
theorem zlz{A:Around}{C:Addr}{us:List Value}{kw:List (Str×Value)}:(A.under (.builtin "type.__call__" ⟨.ref C::us,kw⟩)).units=A.units+1:=by
 first | rfl | simp[Around.under,Code.cUnits,Code.frames,Code.isFrame]
theorem Room.make{k:Nat}{A:Around}(r:Room (k+1) A)(C:Addr)(us:List Value)(kw:List (Str×Value)):Room k (A.under (.builtin "type.__call__" ⟨.ref C::us,kw⟩)) :=
 ⟨r.hd,by have:=r.dp;rw[zl1];omega,by have:=r.un;rw[zlz];omega,by first | exact r.gd | simpa [Around.under,Code.guards,Code.isGuard,guardIds,pushGuards] using r.gd⟩
theorem Room.depth{k:Nat}{A:Around}(r:Room k A):A.depth<recursionLimit:=by have:=r.dp;omega
def z06:TA:=fun _ H Q=>Q [] H
def z09(ta:TE)(tr:TA):TA:=fun σ H Q=>ta σ H fun x H1=>tr σ H1 fun xs H2=>Q (x::xs) H2
section
variable {X:Cx}{e:Expr}{es:List Expr}{te:TE}{t:TA}{pos:Pos}
theorem zsk:PA X [] z06:=fun _ _ _ _ H Q I h=>Calls.spliced_nil ⟨[],H,I,.nil,h⟩
theorem znw(ha:PE X e te)(hr:PA X es t)(hs:starEach (e::es) X.env=(false,eval e X.env)::starEach es X.env:=by rfl):PA X (e::es) (z09 te t):=by intro pos pins s σ H Q I h;rw[hs];show wpAny _ _ (spliced ((false,eval e X.env)::backTo pos (starEach es X.env))) _ _ s;refine z7k (thn (ha pins s σ H _ I h) fun u s1 ⟨x,H1,I1,r1,q1⟩=>?_);exact thn (hr pos pins s1 σ H1 _ I1 q1) fun us s2 ⟨xs,H2,I2,r2,q2⟩=>⟨x::xs,H2,I2,.cons r1 r2,q2⟩
def z30(t:TA):TE:=fun σ H Q=>t σ H fun xs H1=>xs.length<=sizeLine/\∀p,H1 p=none->Q (.ref p) (upd H1 p (.tup xs))
def z35(t:TA):TE:=fun σ H Q=>t σ H fun xs H1=>xs.length<=sizeLine/\∀p,H1 p=none->Q (.ref p) (upd H1 p (.lst xs))
theorem zx0{x1}(h:PA X es t):PE X (.Tuple es x1 pos) (z30 t):=by intro pins s σ H Q I hq;refine wpAny_Tuple_spliced (thn (h pos pins s σ H _ I hq) fun us s1 ⟨xs,H1,I1,r,z,q⟩=>⟨by rw[<-r.length];exact z,?_⟩);have hf:H1 s1.heap.objs.size=none:=I1.hok.fresh (z45 _);refine⟨.ref s1.heap.objs.size,upd H1 s1.heap.objs.size (.tup xs),I1.laid (t':=s1.toks) (fun b u e=>z42 _ e) (z45 _) ?_,rfl,q _ hf⟩;exact⟨z,us,r,⟨_,z5u _ rfl,rfl,_,rfl⟩⟩
theorem zsj(h:PA X es t):PE X (.List es pos) (z35 t):=by intro pins s σ H Q I hq;refine wpAny_List_spliced (thn (h pos pins s σ H _ I hq) fun us s1 ⟨xs,H1,I1,r,z,q⟩=>⟨by rw[<-r.length];exact z,?_⟩);have hf:H1 s1.heap.objs.size=none:=I1.hok.fresh (z45 _);refine⟨.ref s1.heap.objs.size,upd H1 s1.heap.objs.size (.lst xs),I1.laid (t':=s1.toks) (fun b u e=>z42 _ e) (z45 _) ?_,rfl,q _ hf⟩;exact⟨z,us,0,r,z5u _ rfl⟩
end
abbrev Sp:=List V->Hp->VK->XK->Prop
abbrev CXT:=List Env->Hp->Shared->XK->zVP
structure Env0 (P:Program) (w:World) (K:zFr) (mg:zMg) (base:Heap) (A:Around) (outer:List Env) (s:Shared) (H:Hp):Prop where
 frames:A.frames=some outer
 mod:Mod K mg base
 bs:∀b o,base.get? b=some o->s.heap.get? b=some o/\H b=none
 bsz:base.objs.size<=s.heap.objs.size
 funs:s.heap.FunFrames base outer
 frf:∀b∈frs outer,H b=none
 hok:HOk P w H s.heap
 bare:AllBare s.gens
def CE(outer:List Env)(P:Program)(w:World)(H:Hp)(s:Shared)(Q:VK)(u:Value)(s':Shared):Prop :=
 ∃v H',s'.os=s.os/\AllBare s'.gens/\Un (frs outer) [] H H' s.heap s'.heap/\HOk P w H' s'.heap/\RelV v u/\Q v H'
def CR(CX:CXT)(outer:List Env)(P:Program)(w:World)(H:Hp)(s:Shared)(Q:VK)(E:XK)(r:Result)(s':Shared):Prop :=
 match r with
 | .ok (.ret u)=>CE outer P w H s Q u s'
 | .ok _=>False
 | .error e=>CX outer H s E e s'
structure FnOk (P:Program) (w:World) (K:zFr) (mg:zMg) (base:Heap) (CX:CXT) (k:Nat) (f:Addr) (fd:FuncData) (ps:List Str) (sp:Sp):Prop where
 len:∀vs H Q E,sp vs H Q E->vs.length=ps.length
 run:∀(A:Around) (outer:List Env) (s:Shared) (H:Hp) (args:Args) (us:List Value) (vs:List V) (Q:VK) (E:XK),Room k A->Env0 P w K mg base A outer s H->BindsTo s fd args (ps.zip us)->Vals vs us->sp vs H Q E ->
   codeAny (model P w) A (.call (.ref f) args) (CR CX outer P w H s Q E) s
theorem FnOk.imp{P:Program}{w:World}{K:zFr}{mg:zMg}{base:Heap}{CX:CXT}{k:Nat}{f:Addr}{fd:FuncData}{ps:List Str}{sp sp':Sp}(F:FnOk P w K mg base CX k f fd ps sp)
   (h:∀vs H Q E,sp' vs H Q E->sp vs H Q E):FnOk P w K mg base CX k f fd ps sp' :=
 ⟨fun vs H Q E q=>F.len vs H Q E (h _ _ _ _ q),fun A outer s H args us vs Q E hr he hb hv hs=>F.run A outer s H args us vs Q E hr he hb hv (h _ _ _ _ hs)⟩
theorem Env0.make{P:Program}{w:World}{K:zFr}{mg:zMg}{base:Heap}{A:Around}{outer:List Env}{s:Shared}{H:Hp}(e:Env0 P w K mg base A outer s H)(C:Addr)(us:List Value)(kw:List (Str×Value)) :
   Env0 P w K mg base (A.under (.builtin "type.__call__" ⟨.ref C::us,kw⟩)) outer s H:=⟨by first | exact e.frames | (simpa [Around.under,Code.envs,Code.isFrame,pushEnvs] using e.frames),e.mod,e.bs,e.bsz,e.funs,e.frf,e.hok,e.bare⟩
section
variable {X:Cx}{pins:zAO}{σ:St}{H:Hp}{s s':Shared}
theorem Inv.env0(I:Inv X pins σ H s):Env0 X.prog X.w X.K X.mg X.base X.A X.stack s H :=
 ⟨I.ok.frames,I.ok.mod,I.bs,z5p I.ok.bsz I.sz,I.stack,I.stkFree,I.hok,I.bare⟩
theorem Inv.after{Q:VK}{u:Value}(I:Inv X pins σ H s)(h:CE X.stack X.prog X.w H s Q u s'):EP X pins σ Q u s':=by obtain⟨v,H',os,bare,un,hok,r,q⟩:=h;obtain⟨hh,g,d,t,os'⟩:=s';obtain rfl:os'=s.os:=os;exact⟨v,H',I.call (h':=hh) (g':=g) (d':=d) (t':=t) (ch:=[]) un hok bare (fun b z=>absurd z (by simp)),r,q⟩
end
def ztg(sp:Sp)(dvs:List V)(E:XK)(t:TA):TE:=fun σ H Q=>t σ H fun vs H1=>sp (vs++dvs) H1 Q E
def zwq(C:Addr)(m:Str)(sp:Sp)(dvs:List V)(E:XK)(ta:TE)(t:TA):TE:=fun σ H Q=>ta σ H fun x H1=>∃a dx fs,x=.ref a/\H1 a=some (.ins C dx fs)/\fs.lookup m=none /\
 t σ H1 fun vs H2=>sp (x::(vs++dvs)) H2 Q E
def ztd(C:Addr)(sp:Sp)(dvs:List V)(E:XK)(t:TA):TE:=fun σ H Q=>t σ H fun vs H1=>∀x dx,H1 x=none->H1 dx=none->dx≠x ->
 sp (.ref x::(vs++dvs)) (upd (upd H1 dx (.own x)) x (.ins C dx [])) (fun v H2=>v=.non/\Q (.ref x) H2) E
def Binds(K:zFr)(fd:FuncData)(ps:List Str)(ds:List Value):Prop :=
 ∀(s:Shared) (us:List Value),K.In s.heap->(us++ds).length=ps.length->BindsTo s fd ⟨us,[]⟩ (ps.zip (us++ds))
theorem Binds.all{K:zFr}{fd:FuncData}{ps:List Str}(h:∀us:List Value,us.length=ps.length->bindArgs fd ⟨us,[]⟩=pure (ps.zip us)):Binds K fd ps []:=fun s us _ hl=>by rw[z5y]at hl ⊢;exact .of_eq (h us hl)
def zdc(CX:CXT)(X:Cx)(E:XK):Prop:=∀(pins:zAO) (σ:St) (H:Hp) (s:Shared) (e:Value) (s':Shared),Inv X pins σ H s->CX X.stack H s E e s'->X.xe e s'
section
variable {X:Cx}{CX:CXT}{k:Nat}{f C:Addr}{fd:FuncData}{ps:List Str}{sp:Sp}{dvs:List V}{ds:List Value}{E:XK}{x m:Str}{p pos apos:Pos}{e o:Expr}{es:List Expr}{ta:TE}{t:TA}
theorem zkk{pins:zAO}{σ:St}{H:Hp}{s:Shared}{Q:VK}{us:List Value}{vs:List V}(F:FnOk X.prog X.w X.K X.mg X.base CX k f fd ps sp)(hr:Room k X.A)(hb:Binds X.K fd ps ds)(hd:Vals dvs ds)(hx:zdc CX X E)
   (I:Inv X pins σ H s) (r:Vals vs us) (h:sp (vs++dvs) H Q E):wpAny (model X.prog X.w) X.A (call (.ref f) us) (EP X pins σ Q) X.xe s:=by
 have r2:Vals (vs++dvs) (us++ds):=r.append hd;have hl:(us++ds).length=ps.length:=by rw[<-r2.length];exact F.len _ _ _ _ h
 refine z77 (z7x (F.run X.A X.stack s H ⟨us,[]⟩ (us++ds) (vs++dvs) Q E hr I.env0 (hb s us I.kIn hl) r2 h) fun r s' hq=>?_);cases r with
 |error e=>exact hx pins σ H s e s' I hq
 | ok fl=>
   cases fl with
   |ret u=>exact I.after hq
   |next=>exact False.elim hq
   |brk=>exact False.elim hq
   |cont=>exact False.elim hq
theorem zuo(F:FnOk X.prog X.w X.K X.mg X.base CX k f fd ps sp)(hr:Room k X.A)(hg:Gl X x)(hm:X.mg x=some (.ref f))(hk:PySem.W.keepIn X.K (.ref f)=true)(hb:Binds X.K fd ps ds)(hd:Vals dvs ds)(hx:zdc CX X E)
   (ha:PA X (e::es) t) (hdb:(x==("__debug__":Str))=false:=by decide) (he:starEach (e::es) X.env=(false,eval e X.env)::starEach es X.env:=by rfl) (hpl:(backTo pos (starEach es X.env)).any (·.1)=false:=by rfl) :
   PE X (.Call (.Name x p) (e::es) [] pos) (ztg sp dvs E t):=by
 intro pins s σ H Q I h;refine z6o (zak I hg hm ?_ hdb);refine z7l (h₀:=X.base) I.ok.mod.kin hk (thn (ha pos pins s σ H _ I h) fun us s1 ⟨vs,H1,I1,r,q⟩=>⟨I1.kIn,?_⟩) he hpl;exact zkk F hr hb hd hx I1 r q
theorem zul{pl:Sem Bool}(he:PE X o ta)(c:Cls X.K C)(hm:Meth X.K C m f)(F:FnOk X.prog X.w X.K X.mg X.base CX k f fd ps sp)(hr:Room k X.A)(hb:Binds X.K fd ps ds)(hd:Vals dvs ds)(hx:zdc CX X E)(ha:PA X (e::es) t)
   (hst:starEach (e::es) X.env=(false,eval e X.env)::starEach es X.env:=by rfl) (hpl:(backTo pos (starEach es X.env)).any (·.1)=false:=by rfl)
   (ht:eval (.Call (.Attribute o m apos) (e::es) [] pos) X.env=(do
     let ov <-eval o X.env
     standAt apos.atName
     let(f,first) <-holding [ov] (getMethod ov m pl)
     callWith pos f first (backTo pos (starEach (e::es) X.env)) (backToKw pos (keywordEach [] X.env))):=by rfl) :
   PE X (.Call (.Attribute o m apos) (e::es) [] pos) (zwq C m sp dvs E ta t):=by
 intro pins s σ H Q I h;refine z7y (pl:=pl) (thn (he pins s σ H _ I h) fun u s1 ⟨x,H1,I1,rx,a,dx,fs,ex,ea,l,q⟩=>?_) ht;subst ex;obtain rfl:u=Value.ref a:=rx;refine zdl I1 ea c hm l ?_;refine z7l (first:=[.ref a]) (h₀:=X.base) I.ok.mod.kin hm.kp (thn (ha pos pins s1 σ H1 _ I1 q) fun us s2 ⟨vs,H2,I2,r,q2⟩=>⟨I2.kIn,?_⟩) hst hpl;exact zkk (us:=.ref a::us) (vs:=.ref a::vs) F hr hb hd hx I2 (.cons rfl r) q2
theorem zqs{pl:Sem Bool}(he:PE X o ta)(c:Cls X.K C)(hm:Meth X.K C m f)(F:FnOk X.prog X.w X.K X.mg X.base CX k f fd ps sp)(hr:Room k X.A)(hb:Binds X.K fd ps ds)(hd:Vals dvs ds)(hx:zdc CX X E)
   (ht:eval (.Call (.Attribute o m apos) [] [] pos) X.env=(do
     let ov <-eval o X.env
     standAt apos.atName
     let(f,first) <-holding [ov] (getMethod ov m pl)
     callWith pos f first (backTo pos (starEach [] X.env)) (backToKw pos (keywordEach [] X.env))):=by rfl) :
   PE X (.Call (.Attribute o m apos) [] [] pos) (zwq C m sp dvs E ta z06):=by
 intro pins s σ H Q I h;refine z7y (pl:=pl) (thn (he pins s σ H _ I h) fun u s1 ⟨x,H1,I1,rx,a,dx,fs,ex,ea,l,q⟩=>?_) ht;subst ex;obtain rfl:u=Value.ref a:=rx;refine zdl I1 ea c hm l ?_;exact z79 (first:=[.ref a]) I1.kIn hm.kp (zkk (us:=[.ref a]) (vs:=[.ref a]) F hr hb hd hx I1 (.cons rfl .nil) q)
structure Mk (K:zFr) (C f:Addr):Prop where
 makes:PySem.W.makesIn K C=true
 init:PySem.W.findIn K (.ref C) "__init__"=some (some (.ref f))
 fn:PySem.W.isFn K (.ref f)=true
 kp:PySem.W.keepIn K (.ref C)=true
theorem zkj{pins:zAO}{σ:St}{H:Hp}{s:Shared}{Q:VK}{us:List Value}{vs:List V}(M:Mk X.K C f)(F:FnOk X.prog X.w X.K X.mg X.base CX k f fd ps sp)(hr:Room (k+1) X.A)(hb:Binds X.K fd ps ds)(hd:Vals dvs ds)
   (hx:zdc CX X E) (I:Inv X pins σ H s) (r:Vals vs us)
   (h:∀x dx,H x=none->H dx=none->dx≠x->sp (.ref x::(vs++dvs)) (upd (upd H dx (.own x)) x (.ins C dx [])) (fun v H2=>v=.non/\Q (.ref x) H2) E) :
   wpAny (model X.prog X.w) X.A (call (.ref C) us) (EP X pins σ Q) X.xe s:=by
 have hq:=h (s.heap.objs.size+1) s.heap.objs.size (I.hok.fresh (z7c _)) (I.hok.fresh (z45 _)) (z5n (z8q _));have I2:=Inv.made (C:=C) I;have r2:Vals (V.ref (s.heap.objs.size+1)::(vs++dvs)) (Value.ref (s.heap.objs.size+1)::(us++ds)):=.cons rfl (r.append hd);have hl:(Value.ref (s.heap.objs.size+1)::us++ds).length=ps.length:=by have e:=r2.length;rw[F.len _ _ _ _ hq]at e;exact e.symm
 refine z77 (zq5 (f:=f) I.kIn M.makes M.init (z6n.mp M.fn) (z7x (F.run _ X.stack _ _ ⟨Value.ref (s.heap.objs.size+1)::us,[]⟩ (Value.ref (s.heap.objs.size+1)::(us++ds)) _ _ E (hr.make C us [])
   (I2.env0.make C us []) (hb _ (Value.ref (s.heap.objs.size+1)::us) I2.kIn hl) r2 hq) fun r s' hq'=>?_))
 cases r with
 |error e=>exact hx pins σ _ _ e s' I2 hq'
 | ok fl=>
   cases fl with
   | ret u=>
     obtain⟨v,H',I3,rv,ev,q3⟩:=I2.after hq';subst ev;exact⟨rv,⟨V.ref (s.heap.objs.size+1),H',I3,rfl,q3⟩⟩
   |next=>exact False.elim hq'
   |brk=>exact False.elim hq'
   |cont=>exact False.elim hq'
theorem zum(M:Mk X.K C f)(F:FnOk X.prog X.w X.K X.mg X.base CX k f fd ps sp)(hr:Room (k+1) X.A)(hg:Gl X x)(hm:X.mg x=some (.ref C))(hb:Binds X.K fd ps ds)(hd:Vals dvs ds)(hx:zdc CX X E)
   (ha:PA X (e::es) t) (hdb:(x==("__debug__":Str))=false:=by decide) (he:starEach (e::es) X.env=(false,eval e X.env)::starEach es X.env:=by rfl) (hpl:(backTo pos (starEach es X.env)).any (·.1)=false:=by rfl) :
   PE X (.Call (.Name x p) (e::es) [] pos) (ztd C sp dvs E t):=by
 intro pins s σ H Q I h;refine z6o (zak I hg hm ?_ hdb);refine z7l (h₀:=X.base) I.ok.mod.kin M.kp (thn (ha pos pins s σ H _ I h) fun us s1 ⟨vs,H1,I1,r,q⟩=>⟨I1.kIn,?_⟩) he hpl;exact zkj M F hr hb hd hx I1 r q
theorem zqt(M:Mk X.K C f)(F:FnOk X.prog X.w X.K X.mg X.base CX k f fd ps sp)(hr:Room (k+1) X.A)(hg:Gl X x)(hm:X.mg x=some (.ref C))(hb:Binds X.K fd ps ds)(hd:Vals dvs ds)(hx:zdc CX X E)
   (hdb:(x==("__debug__":Str))=false:=by decide):PE X (.Call (.Name x p) [] [] pos) (ztd C sp dvs E z06):=by
 intro pins s σ H Q I h;refine z6o (zak I hg hm ?_ hdb);exact z79 I.kIn M.kp (zkj (us:=[]) M F hr hb hd hx I .nil h)
end
structure FnScope (N P:List Str) (sc:Scope):Prop where
 kind:sc.kind=.function
 co:sc.isCoroutine=false
 gen:sc.isGenerator=false
 nd:N.Nodup
 pre:N.take P.length=P
 par:∀x∈P,sc.names.lookup x=some .local\/sc.names.lookup x=some .cell
 nofree:∀y∈sc.names,y.2≠.free
theorem zi3{kindOf:Str->Option NameKind}{x:Str}:∀{binds:List (Str×Value)}{m:zMg},(∀v,(x,v)∉binds)->bindL kindOf binds m x=m x
 | [],_,_=>rfl
 | (n,v)::r,m,h=>by
   unfold bindL;rw[zi3 fun w hw=>h w (z5d _ hw)];split
   · have:x≠n:=by rintro rfl;exact h v z5w
     simp[this]
   · rfl
theorem zi5{kindOf:Str->Option NameKind}{x:Str}:∀{binds:List (Str×Value)}{m:zMg},(∀v,(x,v)∉binds)->bindC kindOf binds m x=m x
 | [],_,_=>rfl
 | (n,v)::r,m,h=>by
   unfold bindC;rw[zi5 fun w hw=>h w (z5d _ hw)];split
   · rfl
   · have:x≠n:=by rintro rfl;exact h v z5w
     simp[this]
theorem zi4{kindOf:Str->Option NameKind}{x:Str}{v:Value}:∀{P:List Str}{vs:List Value}{i:Nat}{m:zMg},P.Nodup->P[i]? = some x->vs[i]? = some v->kindOf x=some .local ->
   bindL kindOf (P.zip vs) m x=some v
 | [],_,_,_,_,h,_,_=>by simp at h
 |_::_,[],_,_,_,_,h,_=>by simp at h
 | p::P,w::vs,0,m,nd,h1,h2,hk=>by simp at h1 h2;subst h1;subst h2;show bindL kindOf ((p,w)::P.zip vs) m p=_;unfold bindL;rw[zi3 fun v hv=>(z8a.mp nd).1 (z8w hv).1,z5o hk];simp
 | p::P,w::vs,i+1,m,nd,h1,h2,hk=>by show bindL kindOf ((p,w)::P.zip vs) m x=_;unfold bindL;exact zi4 (i:=i) (z8a.mp nd).2 (by simpa using h1) (by simpa using h2) hk
theorem zi6{kindOf:Str->Option NameKind}{x:Str}{v:Value}:∀{P:List Str}{vs:List Value}{i:Nat}{m:zMg},P.Nodup->P[i]? = some x->vs[i]? = some v->kindOf x≠some .local ->
   bindC kindOf (P.zip vs) m x=some v
 | [],_,_,_,_,h,_,_=>by simp at h
 |_::_,[],_,_,_,_,h,_=>by simp at h
 | p::P,w::vs,0,m,nd,h1,h2,hk=>by simp at h1 h2;subst h1;subst h2;show bindC kindOf ((p,w)::P.zip vs) m p=_;unfold bindC;rw[zi5 fun v hv=>(z8a.mp nd).1 (z8w hv).1,z5l hk];simp
 | p::P,w::vs,i+1,m,nd,h1,h2,hk=>by show bindC kindOf ((p,w)::P.zip vs) m x=_;unfold bindC;exact zi6 (i:=i) (z8a.mp nd).2 (by simpa using h1) (by simpa using h2) hk
def start(N:List Str)(vs:List V):St:=vs.map some++List.replicate (N.length-vs.length) none
def zfr(CX:CXT)(P:Program)(w:World)(K:zFr)(mg:zMg)(base:Heap)(N:List Str)(qual:Str)(scope:Scope)(f:Addr)(cd:Value)(A:Around)(outer:List Env)(s:Shared)(H:Hp)(E:XK):Cx where
 prog:=P
 w:=w
 K:=K
 mg:=mg
 base:=base
 A:=A.deeper (envOfC qual scope s.heap.objs.size f cd)
 N:=N
 s₀:=s
 H₀:=H
 env:=envOfC qual scope s.heap.objs.size f cd
 outer:=outer
 stack:=envOfC qual scope s.heap.objs.size f cd::outer
 ex:=[]
 calm:=true
 fn:=fun _=>true
 pn:=[]
 xe:=fun e s'=>wpAny (model P w) (A.deeper (envOfC qual scope s.heap.objs.size f cd)) (leaving (envOfC qual scope s.heap.objs.size f cd) e) (fun _ s''=>CX outer H s E e s'') (fun e' s''=>CX outer H s E e' s'') s'
theorem zla{sc:Scope}{n:Nat}{x:Str}(h:sc.names.lookup x=some .cell):∃c,(cellsFrom n sc.names []).lookup x=some c:=by have q:=PySem.W.cellsFrom_some sc.names n [] (.inl h);exact z6p.mp q
theorem zon{CX:CXT}{P:Program}{w:World}{K:zFr}{mg:zMg}{base:Heap}{N ps:List Str}{qual:Str}{scope:Scope}{f:Addr}{cd:Value}{A:Around}{outer:List Env}{s s1:Shared}{H:Hp}{E:XK}{us:List Value}{vs:List V}
   (S:FnScope N ps scope) (hd:A.handled=none) (e0:Env0 P w K mg base A outer s H) (hl:vs.length=ps.length) (r:Vals vs us)
   (x:InCallC s s.heap.objs.size (bindL (envOfC qual scope s.heap.objs.size f cd).kindOf (ps.zip us) fun _=>none) (cellsFrom (s.heap.objs.size+1) scope.names []) (bindC (envOfC qual scope s.heap.objs.size f cd).kindOf (ps.zip us) fun _=>none) s1) :
   Inv (zfr CX P w K mg base N qual scope f cd A outer s H E) [] (start N vs) H s1:=by
 have hpl:ps.length<=N.length:=by have:=z6w List.length S.pre;rw[z5g]at this;omega
 obtain⟨h1,tk,rfl,hk⟩:=x.done;have noA:∀b:Addr,b∉(zfr CX P w K mg base N qual scope f cd A outer s H E).ex:=fun b z=>absurd (show b∈([]:List Addr)from z) (by simp);refine⟨⟨e0.mod,S.kind,rfl,rfl,z45 _,fun y z c h1 h2=>?_,fun y hy=>?_,fun y c _ h=>?_,fun _=>hd,Around.frames_deeper e0.frames,.inr ⟨rfl,rfl⟩,fun b z=>absurd z (noA b),e0.bs,e0.bsz,fun b _ _=>noA b,fun b z=>absurd z (noA b),e0.funs,e0.frf⟩,
   rfl,e0.bare,Un.kept hk,⟨_,x.toInCall.ns,fun i y v h1 h2 h3=>?_⟩,fun y c h=>⟨_,x.cell y c h⟩,e0.hok.fresh (z45 _),fun y c h=>?_,fun p hp=>absurd (show p∈([]:zAO)from hp) (by simp),e0.hok.kept hk,?_⟩
 · exact name_of_addr x.apart (z63 h1) (z63 h2)
 · have hy:scope.names.lookup y=some .cell\/scope.names.lookup y=some .free:=hy;rcases hy with hy | hy
   · exact zla hy
   · exact absurd rfl (S.nofree _ (z63 hy))
 · exact z6t (x.above y c (z63 h))
 · have hi:i<vs.length:=by
     unfold start at h2;by_cases hi:i<vs.length
     · exact hi
     · rw[z5j (by simpa using hi)]at h2;rw[List.getElem?_replicate]at h2;split at h2<;>cases h2
   have ha:vs[i]? = some v:=by
     unfold start at h2;rw[z5h (by simpa using hi),z50]at h2;cases e:vs[i]? with
     |none=>rw[e]at h2;cases h2
     |some a=>rw[e]at h2;cases h2;rfl
   obtain⟨u,hu,rv⟩:=r.get ha;have hp:ps[i]? = some y:=by rw[<-S.pre,z6q (by omega)];exact h1
   have ndP:ps.Nodup:=by rw[<-S.pre];exact S.nd.sublist (List.take_sublist _ _)
   refine⟨u,rv,?_⟩;rcases S.par y (z60 hp)with k | k
   · exact .inl ⟨k,zi4 ndP hp hu k⟩
   · obtain⟨c,e⟩:=zla (n:=s.heap.objs.size+1) k;refine .inr ⟨.inl k,c,e,?_⟩;have q:=x.cell y c e;rw[zi6 ndP hp hu (by show scope.names.lookup y≠_;rw[k];decide)]at q;exact q
 · exact e0.hok.fresh (z6t (x.above y c (z63 h)))
 · unfold start;show _=N.length;rw[z41,z6b,List.length_replicate];omega
theorem zvc{CX:CXT}{P:Program}{w:World}{K:zFr}{mg:zMg}{base:Heap}{k:Nat}{f:Addr}{name qual:Str}{params:Arguments}{body:List Stmt}{scope:Scope}{dV kV doc pm cdv ct oc:Value}{an od:Option Addr}
   {osl:Array (Option Value)}{N ps:List Str}{sp:Sp} (lk:K.lookup f=some ⟨oc,od,.func (PySem.W.fnOf name qual params body scope dV kV doc pm an cdv ct),osl⟩) (hcd:PySem.W.codeIn K cdv qual=true) (S:FnScope N ps scope)
   (len:∀vs H Q E,sp vs H Q E->vs.length=ps.length)
   (hbody:∀(A:Around) (outer:List Env) (s:Shared) (H:Hp) (vs:List V) (Q:VK) (E:XK),Room k (A.deeper (envOfC qual scope s.heap.objs.size f cdv))->sp vs H Q E ->
     ∃t,PSs (zfr CX P w K mg base N qual scope f cdv A outer s H E) body t/\t { nx:=fun _ H'=>Q .non H',rt:=Q } (start N vs) H) :
   FnOk P w K mg base CX (k+1) f (PySem.W.fnOf name qual params body scope dV kV doc pm an cdv ct) ps sp:=by
 refine⟨len,fun A outer s H args us vs Q E hr e0 hb r hsp=>?_⟩;have hl:=len _ _ _ _ hsp;have KX:K.In s.heap:=e0.mod.kin.keeps fun b o e=>(e0.bs b o e).1;have lim:s.heap.NoLimit:=e0.mod.nolimit.keeps fun b o e=>(e0.bs b o e).1;have hkind:∀y∈ps.zip us,scope.names.lookup y.1=some .local\/(scope.names.lookup y.1=some .cell/\((cellsFrom (s.heap.objs.size+1) scope.names []).lookup y.1).isSome=true):=fun⟨n,v⟩ hy=>by
   rcases S.par n (z8w hy).1 with q | q
   · exact .inl q
   · exact .inr ⟨q,PySem.W.cellsFrom_some _ _ _ (.inl q)⟩
 refine codeAny_call_function hr.depth (KX _ _ lk) rfl S.co S.gen rfl (PySem.W.codeRec_of KX hcd) (hb _ _ _ _ ?_);refine wpAny_newFunctionEnv_cells S.kind hkind fun env he s1 x=>?_;subst he;refine⟨lim.keeps x.toInCall.keep,codeAny_func ?_⟩;obtain⟨t,ht,hq⟩:=hbody A outer s H vs Q E (hr.deeper _) hsp;have I:Inv (zfr CX P w K mg base N qual scope f cdv A outer s H E) [] (start N vs) H s1:=zon S hr.hd e0 hl r x;refine z7t (ht [] s1 (start N vs) H _ I hq) (fun fl s' hs=>?_) fun e s' hs=>hs;have fin:∀{σ':St}{H':Hp}{v:V}{u:Value},Inv (zfr CX P w K mg base N qual scope f cdv A outer s H E) [] σ' H' s'->RelV v u->Q v H'->CE outer P w H s Q u s' :=
   fun {σ' H' v u} J rv q=>⟨v,H',J.os,J.bare,J.base,J.hok,rv,q⟩
 cases fl with
 | ret u=>
   obtain⟨v,σ',H',J,rv,q⟩:=hs;exact fin J rv q
 | next=>
   obtain⟨σ',H',J,q⟩:=hs;exact fin (v:=V.non) (u:=Value.none) J rfl q
 | brk=>
   obtain⟨_,_,_,q⟩:=hs;exact False.elim q
 | cont=>
   obtain⟨_,_,_,q⟩:=hs;exact False.elim q
section
variable {X:Cx}{x:Str}{p pos:Pos}{e:Expr}{es:List Expr}{t:TA}{id T:String}{r:List V->Hp->VK->Prop}
def tCB(r:List V->Hp->VK->Prop)(t:TA):TE:=fun σ H Q=>t σ H fun vs H1=>r vs H1 Q
theorem zqu(hc:CallR X (.builtin id) r)(hg:Gl X x)(hm:X.mg x=none)(hv:bootBuiltins x=some (.builtin id))(ha:PA X (e::es) t)(hn:x≠"__name__":=by decide)(hdb:(x==("__debug__":Str))=false:=by decide)
   (he:starEach (e::es) X.env=(false,eval e X.env)::starEach es X.env:=by rfl) (hpl:(backTo pos (starEach es X.env)).any (·.1)=false:=by rfl):PE X (.Call (.Name x p) (e::es) [] pos) (tCB r t):=by
 intro pins s σ H Q I h;refine z6o (zid I hg hm hv ?_ hn hdb);exact PyProof.Rows.callWith_builtin1 (thn (ha pos pins s σ H _ I h) fun us s1 ⟨vs,H1,I1,r1,q1⟩=>hc pins s1 σ H1 vs us Q I1 r1 q1) he hpl
theorem zh9(hc:CallR X (.type T) r)(hg:Gl X x)(hm:X.mg x=none)(hv:bootBuiltins x=some (.type T))(ha:PA X (e::es) t)(hn:x≠"__name__":=by decide)(hdb:(x==("__debug__":Str))=false:=by decide)
   (he:starEach (e::es) X.env=(false,eval e X.env)::starEach es X.env:=by rfl) (hpl:(backTo pos (starEach es X.env)).any (·.1)=false:=by rfl):PE X (.Call (.Name x p) (e::es) [] pos) (tCB r t):=by
 intro pins s σ H Q I h;refine z6o (zid I hg hm hv ?_ hn hdb);exact z6u (thn (ha pos pins s σ H _ I h) fun us s1 ⟨vs,H1,I1,r1,q1⟩=>hc pins s1 σ H1 vs us Q I1 r1 q1) he hpl
end
end L2
namespace HT
open PySem PyProof.Rows
section
open PySem.SeqAt
open PySem.AutoSeq1 (wpAny_loadPart')
open PySem.MeetsSeq PySem.MeetsSeq2 PySem.MeetsSeq3
end
section
variable {prog:Program}{w:World}{A:Around}{E:zVP}{s:Shared}
theorem cat_tup{t b:Addr}{vs ws:List Value}{Q:zVP}(ht:IsTup s.heap t vs.toArray)(hb:IsTup s.heap b ws.toArray)(hv:vs≠[])
   (h1:ws=[]->Q (.ref t) s) (h2:ws≠[]->Q (.ref s.heap.objs.size) { s with heap:=s.heap.push { cls:=.type "tuple",data:=.seq (vs++ws).toArray } })
   (hsz:vs.length+ws.length<=sizeLine):wpAny (model prog w) A (binaryOp .Add (.ref t) (.ref b)) Q E s:=by
 obtain⟨⟨cls,dd,data,sl⟩,ho,hc,n,hd⟩:=id ht;obtain⟨⟨cls2,dd2,data2,sl2⟩,ho2,hc2,n2,hd2⟩:=id hb;simp only at hc hd hc2 hd2;subst hc hd hc2 hd2;have e:vs.toArray++ws.toArray=(vs++ws).toArray:=by simp
 by_cases hw:ws=[]
 · exact z8x ⟨_,ho,rfl⟩ ⟨_,ho2,rfl⟩ noFill_tuple_add seq_tuple_add z7r z7m (z7f _ _)
     (tuple_addW1 t b vs.toArray ws.toArray n n2 dd dd2 sl sl2 (by simpa using hv) (by simp[hw])) ⟨ho,ho2,h1 hw⟩
 · refine z8x ⟨_,ho,rfl⟩ ⟨_,ho2,rfl⟩ noFill_tuple_add seq_tuple_add z7r z7m (z7f _ _)
     (tuple_addW2 t b vs.toArray ws.toArray n n2 dd dd2 sl sl2 (by simpa using hv) (by simpa using hw) (by rw[z46,z46];exact hsz)) ⟨ho,ho2,?_⟩
   rw[e];exact h2 hw
def sIx(n d:Nat):Option Int->Nat
 |none=>d
 |some v=>if v<0 then (v+(n:Int)).toNat else min v.toNat n
theorem zxe(n d:Nat)(hd:d<=n)(o:Option Int):sIx n d o<=n:=by
 cases o with
 |none=>exact hd
 | some v=>
   show(if v<0 then (v+(n:Int)).toNat else min v.toNat n)<=n;by_cases hv:v<0
   · rw[z5o hv];omega
   · rw[z5l hv];exact Nat.min_le_right _ _
theorem zpc(v:Int)(n d:Nat):(if v<0 then max (v+(n:Int)) 0 else min v (n:Int))=((sIx n d (some v):Nat):Int):=by
 show(if v<0 then max (v+(n:Int)) 0 else min v (n:Int))=(((if v<0 then (v+(n:Int)).toNat else min v.toNat n):Nat):Int)
 by_cases hv:v<0
 · simp only[z5o hv];omega
 · simp only[z5l hv];omega
theorem zmi(lo hi:Option Int)(n:Nat):Builtin.Slice.sliceAdjust lo hi 1 (n:Int)=(((sIx n 0 lo:Nat):Int),((sIx n n hi:Nat):Int)):=by
 have h1:¬ ((1:Int)<0):=by omega
 unfold Builtin.Slice.sliceAdjust;simp only[h1,z69];refine Prod.ext ?_ ?_
 · cases lo with
   |none=>rfl
   |some v=>exact zpc v n 0
 · cases hi with
   |none=>rfl
   |some v=>exact zpc v n n
theorem zlt(i j:Nat):Builtin.Slice.slicePlaces (i:Int) (j:Int) 1=j-i:=by
 unfold Builtin.Slice.slicePlaces;have h1:(1:Int)>0:=by omega
 simp only[h1,z64,Int.ediv_one];split<;>omega
theorem zf2{v:Value}{o:Option Int}{Q:Option Int->Shared->Prop}(p:IsPart v o)(h:Q o s):wpAny (model prog w) A (Builtin.Slice.slicePartIndex v) Q E s:=by
 cases p with
 |none=>exact slicePart_none h
 |int i t=>exact slicePart_int h
theorem zd1{sl:Addr}{vl vu:Value}{lo hi:Option Int}{n:Nat}{Q:Int×Int×Nat->Shared->Prop}(hs:s.heap.IsSliceOf sl vl vu .none)(pl:IsPart vl lo)(pu:IsPart vu hi)
   (h:Q (((sIx n 0 lo:Nat):Int),1,sIx n n hi-sIx n 0 lo) s):wpAny (model prog w) A (Builtin.Slice.sliceApplied (.ref sl) (pure (n:Int))) Q E s:=by
 obtain⟨os,hos,hcs,hds⟩:=id hs;unfold Builtin.Slice.sliceApplied Builtin.Slice.sliceFields;refine z40 (z40 (z7d hos hds (x:=vl) rfl (z40 (z7d hos hds (x:=vu) rfl (z40 (z7d hos hds (x:=.none) rfl (z5e ?_)))))));refine z40 (slicePart_none ?_);show wpAny _ _ (if((1:Int)==0)=true then _ else _) _ _ s;rw[z5l (by decide)];refine z40 (zf2 pl (z40 (zf2 pu (z40 (z5e ?_)))));show wpAny _ _ (match Builtin.Slice.sliceAdjust lo hi 1 (n:Int)with | (lo,hi)=>pure (lo,(1:Int),Builtin.Slice.slicePlaces lo hi 1)) _ _ s;rw[zmi lo hi n];show wpAny _ _ (pure (((sIx n 0 lo:Nat):Int),(1:Int),Builtin.Slice.slicePlaces ((sIx n 0 lo:Nat):Int) ((sIx n n hi:Nat):Int) 1)) _ _ s;rw[zlt];exact z5e h
theorem zqp(xs:Array Value)(i k:Nat):((List.range k).filterMap fun(m:Nat)=>xs[((i:Int)+(m:Int)*1).toNat]?).toArray=((xs.toList.drop i).take k).toArray:=by
 have e:(fun(m:Nat)=>xs[((i:Int)+(m:Int)*1).toNat]?)=fun m=>xs[i+m]?:=by
   funext m;have:((i:Int)+(m:Int)*1).toNat=i+m:=by omega
   rw[this]
 rw[e];have:=pick_run xs i k;rw[List.filterMap_map]at this;have e2:((fun x=>xs[x]?)∘fun x=>i+x)=fun m=>xs[i+m]?:=rfl;rw[e2]at this;rw[this]
theorem getItem_tuple_cut{t sl:Addr}{items:Array Value}{vl vu:Value}{lo hi:Option Int}{Q:zVP}(ht:IsTup s.heap t items)(hs:s.heap.IsSliceOf sl vl vu .none)(pl:IsPart vl lo)(pu:IsPart vu hi)
   (hw:¬ (sIx items.size 0 lo=0/\sIx items.size items.size hi=items.size))
   (h:Q (.ref s.heap.objs.size) { s with heap:=s.heap.push { cls:=.type "tuple",data:=.seq ((items.toList.drop (sIx items.size 0 lo)).take (sIx items.size items.size hi-sIx items.size 0 lo)).toArray } })
   (hsz:items.size<=sizeLine):wpAny (model prog w) A (getItem (.ref t) (.ref sl)) Q E s:=by
 have htake:sizeOk (.seq ((items.toList.drop (sIx items.size 0 lo)).take (sIx items.size items.size hi-sIx items.size 0 lo)).toArray):=by show((items.toList.drop (sIx items.size 0 lo)).take (sIx items.size items.size hi-sIx items.size 0 lo)).toArray.size<=sizeLine;rw[z46,z5g,z5r,Array.length_toList];omega
 have hj:sIx items.size items.size hi<=items.size:=zxe _ _ (z45 _) hi;obtain⟨os,hos,hcs,hds⟩:=id hs;have hTs:s.TypeIs (.ref sl) "slice":=⟨os,hos,hcs⟩
 unfold getItem
 try with_reducible refine wpAny_holding ?_
 first | refine z40 (z5e ?_) | skip
 refine z40 (wpAny_sequenceKey ht.typeIs (by decide) ?_);refine z40 (wpAny_callSpecial?_slot (name:=Str.ofString "__getitem__") ht.typeIs z61
   (wpAny_call_entry z61 ht.typeIs entry_tuple_getitem ?_ (args_tuple_getitem _ _)))
 show wpAny _ _ (Builtin.Tuple.tupleItemsOf (.ref t) >>= _) _ _ s;refine z40 (tupleItemsOf_ ht ?_);refine z40 (wpAny_typeOf hTs ?_);rw[z5o (by decide)];refine z40 (zd1 hs pl pu ?_);have hno:¬ ((((sIx items.size 0 lo:Nat):Int)==0&&(1:Int)==1&&(sIx items.size items.size hi-sIx items.size 0 lo)==items.size)=true):=by intro q;rw[z5k,z5k]at q;have q1:((sIx items.size 0 lo:Nat):Int)=0:=eq_of_beq q.1.1;have q2:sIx items.size items.size hi-sIx items.size 0 lo=items.size:=eq_of_beq q.2;exact hw ⟨by omega,by omega⟩
 show wpAny _ _ (if(((sIx items.size 0 lo:Nat):Int)==0&&(1:Int)==1&&(sIx items.size items.size hi-sIx items.size 0 lo)==items.size)=true then _ else _) _ _ s;rw[z5l hno,zqp]
 first
   |exact z40 (m:=Builtin.Tuple.tupleExact _) (z62 (z5e ⟨_,rfl,z5e h⟩) htake)
   |exact z40 (m:=Builtin.Tuple.tupleExact _) (z62 (z40 (z5e (z5e ⟨_,rfl,z5e h⟩))) htake)
   |exact z40 (z40 (m:=Builtin.Tuple.tupleExact _) (z62 (z5e (z5e ⟨_,rfl,z5e h⟩)) htake))
   |exact z40 (z40 (m:=Builtin.Tuple.tupleExact _) (z62 (z5e ⟨_,rfl,z5e h⟩) htake))
end
end HT
namespace L2
open PySem PySem.Spec PyProof.Rows
abbrev TO:=St->Hp->(Option Int->Hp->Prop)->Prop
def PO(X:Cx)(e:Option Expr)(t:TO):Prop :=
 ∀(pins:zAO) (s:Shared) (σ:St) (H:Hp) (Q:Option Int->Hp->Prop),Inv X pins σ H s->t σ H Q ->
   wpAny (model X.prog X.w) X.A (evalPart e X.env) (fun u s'=>∃o H',Inv X pins σ H' s'/\IsPart u o/\Q o H') X.xe s
def ztc:TO:=fun _ H Q=>Q none H
def z04(t:TE):TO:=fun σ H Q=>t σ H fun x H1=>∃i,x=.int i/\Q (some i) H1
section
variable {X:Cx}{e:Expr}{te:TE}{lo hi:Option Expr}{tl th:TO}{pos p2:Pos}
theorem zui:PO X none ztc:=by intro pins s σ H Q I h;rw[evalPart_none];exact z5e ⟨none,H,I,.none,h⟩
theorem zuh(h:PE X e te):PO X (some e) (z04 te):=by intro pins s σ H Q I hw;rw[evalPart_some];refine thn (h pins s σ H _ I hw) fun u s1 ⟨x,H1,I1,r1,q1⟩=>?_;obtain⟨i,rfl,q⟩:=q1;obtain⟨t,rfl⟩:=r1;exact⟨some i,H1,I1,.int i t,q⟩
def SlR(X:Cx)(r:V->Option Int->Option Int->Hp->VK->Prop):Prop :=
 ∀(pins:zAO) (s:Shared) (σ:St) (H:Hp) (x:V) (v vl vu:Value) (lo hi:Option Int) (sl:Addr) (Q:VK),Inv X pins σ H s->RelV x v->s.heap.IsSliceOf sl vl vu .none->IsPart vl lo->IsPart vu hi->r x lo hi H Q ->
   ∃T id,typeLookup (.type T) "__getitem__"=pure (some (.builtin id))/\s.TypeIs v T/\wpAny (model X.prog X.w) X.A (getItem v (.ref sl)) (EP X pins σ Q) X.xe s
theorem SlR.or{r r':V->Option Int->Option Int->Hp->VK->Prop}(h:SlR X r)(h':SlR X r'):SlR X (fun x lo hi H Q=>r x lo hi H Q\/r' x lo hi H Q):=by
 intro pins s σ H x v vl vu lo hi sl Q I rx hs pl pu q;rcases q with q | q
 · exact h pins s σ H x v vl vu lo hi sl Q I rx hs pl pu q
 · exact h' pins s σ H x v vl vu lo hi sl Q I rx hs pl pu q
def tSl(r:V->Option Int->Option Int->Hp->VK->Prop)(te:TE)(tl th:TO):TE:=fun σ H Q=>te σ H fun x H1=>tl σ H1 fun l H2=>th σ H2 fun u H3=>r x l u H3 Q
theorem zqr{r:V->Option Int->Option Int->Hp->VK->Prop}(hr:SlR X r)(he:PE X e te)(hl:PO X lo tl)(hu:PO X hi th):PE X (.Subscript e (.Slice lo hi none p2) pos) (tSl r te tl th):=by intro pins s σ H Q I h;refine Subscript_ (thn (he pins s σ H _ I h) fun v s1 ⟨x,H1,I1,r1,q1⟩=>?_);refine wpAny_Slice (thn (hl pins s1 σ H1 _ I1 q1) fun vl s2 ⟨l,H2,I2,pl,q2⟩=>thn (hu pins s2 σ H2 _ I2 q2) fun vu s3 ⟨u,H3,I3,pu,q3⟩=>?_);rw[evalPart_none];refine z5e ?_;have I4:Inv X pins σ H3 { s3 with heap:=s3.heap.push { cls:=.type "slice",data:=.fields #[vl,vu,.none] } }:=I3.kept (t':=s3.toks) fun b ob q=>z42 _ q;obtain⟨T,id,hT,ht,hg⟩:=hr pins { s3 with heap:=s3.heap.push { cls:=.type "slice",data:=.fields #[vl,vu,.none] } } σ H3 x v vl vu l u s3.heap.objs.size Q I4 r1 (Heap.IsSliceOf.new ..) pl pu q3;show wpAny (model X.prog X.w) X.A (subscriptTail e (.Slice lo hi none p2) v (.ref s3.heap.objs.size)) (EP X pins σ Q) X.xe { s3 with heap:=s3.heap.push { cls:=.type "slice",data:=.fields #[vl,vu,.none] } };exact tail_any (ops:=[.ref s3.heap.objs.size,v]) ht hT hg (by with_unfolding_all rfl)
def zsz(xs:List V)(lo hi:Option Int):List V:=(xs.drop (HT.sIx xs.length 0 lo)).take (HT.sIx xs.length xs.length hi-HT.sIx xs.length 0 lo)
theorem zfg(xs:List V)(lo hi:Option Int):(zsz xs lo hi).length<=xs.length:=by unfold zsz;rw[z5g,z5r];omega
def z4f(K:zFr):V->Option Int->Option Int->Hp->VK->Prop:=fun x lo hi H Q=>∃a xs,x=.ref a/\SqT K H a xs /\
 ¬ (HT.sIx xs.length 0 lo=0/\HT.sIx xs.length xs.length hi=xs.length)/\∀p,H p=none->Q (.ref p) (upd H p (.tup (zsz xs lo hi)))
theorem zw5:SlR X (z4f X.K):=by
 intro pins s σ H x v vl vu lo hi sl Q I rx hs pl pu h;obtain⟨a,xs,rfl,hx,hw,q⟩:=h;cases rx;obtain⟨its,r,ht,hz⟩:=I.tuple hx;have hlen:its.toArray.size=xs.length:=by rw[z46];exact r.length.symm
 refine⟨"tuple",_,z61.lookup,ht.typeIs,?_⟩;refine HT.getItem_tuple_cut ht hs pl pu (by rw[hlen];exact hw) ?_ (by rw[hlen];exact hz);rw[hlen];refine⟨.ref s.heap.objs.size,_,I.laid (t':=s.toks) (o:=.tup (zsz xs lo hi)) (fun b ob q=>z42 _ q) (z45 _) ?_,rfl,q _ (I.hok.fresh (z45 _))⟩;exact⟨z5p (zfg xs lo hi) hz,_,(r.drop (HT.sIx xs.length 0 lo)).take (HT.sIx xs.length xs.length hi-HT.sIx xs.length 0 lo),IsTup.new _ _⟩
def zxl(K:zFr):R2:=fun x y H Q=>∃a b xs ys,x=.ref a/\y=.ref b/\SqT K H a xs/\SqT K H b ys/\xs≠[]/\xs.length+ys.length<=sizeLine /\
 (ys=[]->Q (.ref a) H)/\(ys≠[]->∀p,H p=none->Q (.ref p) (upd H p (.tup (xs++ys))))
theorem Vals.nil_iff{xs:List V}{us:List Value}(r:Vals xs us):us=[]↔xs=[]:=by
 cases r with
 |nil=>simp
 |cons _ _=>simp
theorem op_catT:OpR X (binaryOp .Add) (zxl X.K):=by intro pins s σ H x y v u Q I rx ry h;obtain⟨a,b,xs,ys,rfl,rfl,ha,hb,hx,hz,q1,q2⟩:=h;cases rx;cases ry;obtain⟨its,r1,p1,_⟩:=I.tuple ha;obtain⟨its2,r2,p2,_⟩:=I.tuple hb;refine HT.cat_tup p1 p2 (fun z=>hx (r1.nil_iff.mp z)) (fun z=>⟨.ref a,H,I,rfl,q1 (r2.nil_iff.mp z)⟩) (fun z=>?_) (by rw[<-r1.length,<-r2.length];exact hz);refine⟨.ref s.heap.objs.size,_,I.laid (t':=s.toks) (o:=.tup (xs++ys)) (fun b ob q=>z42 _ q) (z45 _) ?_,rfl,q2 (fun w=>z (r2.nil_iff.mpr w)) _ (I.hok.fresh (z45 _))⟩;exact⟨by rw[z41];exact hz,_,r1.append r2,IsTup.new _ _⟩
end
def ixN(n:Nat)(i:Int):Option Nat:=if 0<=i then (if i<n then some i.toNat else none)else if -(n:Int)<=i then some (i+n).toNat else none
def atI{α:Type}(xs:List α)(i:Int):Option α:=(ixN xs.length i).bind fun j=>xs[j]?
theorem zoi{n:Nat}{i:Int}{j:Nat}(h:ixN n i=some j):seqIndex? i n=some j/\j<n/\-(n:Int)<=i/\i<n:=by
 unfold ixN at h;by_cases h0:0<=i
 · rw[z5o h0]at h;by_cases h1:i<n
   · rw[z5o h1]at h;have e:i.toNat=j:=z5s h;exact⟨by rw[seqIndex_of h0 h1,e],by omega,by omega,h1⟩
   · rw[z5l h1]at h;cases h
 · rw[z5l h0]at h;by_cases h1:-(n:Int)<=i
   · rw[z5o h1]at h;have e:(i+n).toNat=j:=z5s h;exact⟨by rw[seqIndex_neg (by omega) h1,e],by omega,h1,by omega⟩
   · rw[z5l h1]at h;cases h
theorem zj7{α:Type}{xs:List α}{i:Int}{v:α}(h:atI xs i=some v):∃j,seqIndex? i xs.length=some j/\xs[j]? = some v/\j<xs.length/\-(xs.length:Int)<=i/\i<xs.length:=by
 unfold atI at h;cases e:ixN xs.length i with
 |none=>rw[e]at h;cases h
 | some j=>
   rw[e]at h;obtain⟨h1,h2,h3,h4⟩:=zoi e;exact⟨j,h1,h,h2,h3,h4⟩
theorem zbf{α:Type}{xs:List α}{j:Nat}{v:α}(h:xs[j]? = some v):atI xs (j:Int)=some v:=by
 have hj:j<xs.length:=(z4y.mp h).1;have e:ixN xs.length (j:Int)=some j:=by unfold ixN;rw[z5o (by omega),z5o (by omega)];simp
 unfold atI;rw[e];exact h
def zpt(b:Expr):Prop:=∀o i,subscripted b false o i=operate [o,i] (getItem o i)
def IxR(X:Cx)(r:R2):Prop :=
 ∀(value slice:Expr) (pins:zAO) (s:Shared) (σ:St) (H:Hp) (x y:V) (v u:Value) (Q:VK),Inv X pins σ H s->RelV x v->RelV y u->r x y H Q ->
   subscripted slice false v u=operate [v,u] (getItem v u)->wpAny (model X.prog X.w) X.A (subscriptTail value slice v u) (EP X pins σ Q) X.xe s
def MtR(X:Cx)(id:String)(r:V->List V->Hp->VK->Prop):Prop :=
 ∀(pins:zAO) (s:Shared) (σ:St) (H:Hp) (x:V) (xs:List V) (v:Value) (us:List Value) (Q:VK),Inv X pins σ H s->RelV x v->Vals xs us->r x xs H Q ->
   wpAny (model X.prog X.w) X.A (call (.builtin id) (v::us)) (EP X pins σ Q) X.xe s
section
variable {X:Cx}{a b:Expr}{ta tb:TE}{pos:Pos}
theorem IxR.or{r r':R2}(h:IxR X r)(h':IxR X r'):IxR X (fun x y H Q=>r x y H Q\/r' x y H Q):=by
 intro value slice pins s σ H x y v u Q I rx ry q hs;rcases q with q | q
 · exact h value slice pins s σ H x y v u Q I rx ry q hs
 · exact h' value slice pins s σ H x y v u Q I rx ry q hs
theorem z1r{r:R2}(hr:IxR X r)(ha:PE X a ta)(hb:PE X b tb)(hs:zpt b):PE X (.Subscript a b pos) (tOp r ta tb):=by intro pins s σ H Q I h;exact Subscript_ (z21 ha hb I h fun v u s2 x y H2 I2 rx ry q=>hr a b pins s2 σ H2 x y v u Q I2 rx ry q (hs _ _))
def z3j(K:zFr):R2:=fun x y H Q=>∃p xs i v,x=.ref p/\y=.int i/\SqL K H p xs/\atI xs i=some v/\Q v H
def z3h(K:zFr):R2:=fun x y H Q=>∃p xs i v,x=.ref p/\y=.int i/\SqT K H p xs/\atI xs i=some v/\Q v H
def z3i:R2:=fun x y H Q=>∃z i c,x=.str z/\y=.int i/\z.length<=sizeLine/\atI z.cps.toList i=some c/\Q (.str ⟨#[c]⟩) H
theorem ix_list:IxR X (z3j X.K):=by
 intro value slice pins s σ H x y v u Q I rx ry h hs;obtain⟨p,xs,i,z,rfl,rfl,hq,he,q⟩:=h;cases rx;obtain⟨t,rfl⟩:=ry;obtain⟨its,r,pl,hz⟩:=I.list hq;obtain⟨j,h1,h2,h3,h4,h5⟩:=zj7 he;obtain⟨w,ew,rw'⟩:=r.get h2;have hl:=r.length;have hn:=zf8;have fin:EP X pins σ Q w s:=⟨z,H,I,rw',q⟩
 by_cases h0:0<=i
 · have hj:i.toNat=j:=by rw[seqIndex_of h0 h5]at h1;exact z5s h1
   exact item_listR pl.isList h0 (by omega) (by rw[hj];simpa using ew) fin hs
 · have hj:(i+(its.toArray.size:Int)).toNat=j:=by rw[seqIndex_neg (by omega) h4]at h1;rw[z46,<-hl];exact z5s h1
   exact subscriptTail_builtinR (x:=w) pl.isList.typeIs slot_list_getitem.lookup
     (wpAny_getItem_list_neg (Q:=fun r s'=>r=w/\EP X pins σ Q r s') pl.isList (by omega) (by rw[z46]<;>omega) (by omega) (by rw[hj];simpa using ew) ⟨rfl,fin⟩) hs
theorem ix_tup:IxR X (z3h X.K):=by
 intro value slice pins s σ H x y v u Q I rx ry h hs;obtain⟨p,xs,i,z,rfl,rfl,hq,he,q⟩:=h;cases rx;obtain⟨t,rfl⟩:=ry;obtain⟨its,r,pl,hz⟩:=I.tuple hq;obtain⟨j,h1,h2,h3,h4,h5⟩:=zj7 he;obtain⟨w,ew,rw'⟩:=r.get h2;have hl:=r.length;have hn:=zf8;have fin:EP X pins σ Q w s:=⟨z,H,I,rw',q⟩
 exact subscriptTail_builtinR (x:=w) pl.typeIs slot_tuple_getitem.lookup
   (getItem_tuple (j:=j) (Q:=fun r s'=>r=w/\EP X pins σ Q r s') pl (by omega) (by omega) (by rw[z46,<-hl];exact h1) (by simpa using ew) ⟨rfl,fin⟩) hs
theorem zy0:IxR X z3i:=by
 intro value slice pins s σ H x y v u Q I rx ry h hs;obtain⟨z,i,c,rfl,rfl,hz,he,q⟩:=h;obtain⟨t,rfl⟩:=rx;obtain⟨t',rfl⟩:=ry;obtain⟨j,h1,h2,h3,h4,h5⟩:=zj7 he;have hl:z.cps.toList.length=z.length:=by simp[Str.length]
 rw[hl]at h1 h4 h5;have hn:=zf8;exact tail_any (typeIs_str s z t) slot_str_getitem.lookup (getItem_str (c:=c) (by
   have e1:decide (i < -(2^63:Int))=false:=z47 (by omega);have e2:decide (i ≥ 2^63)=false:=z47 (by omega);rw[e1,e2,Bool.or_false]) (by rw[h1];simpa using h2) ⟨.str ⟨#[c]⟩,H,I.tok _,⟨_,rfl⟩,q⟩) hs
def rIx(K:zFr):R2:=fun x y H Q=>z3j K x y H Q\/z3h K x y H Q\/z3i x y H Q
theorem zy1:IxR X (rIx X.K):=ix_list.or (ix_tup.or zy0)
theorem zly(its:List Value)(n j:Nat)(u:Value):Obj.mapSeq (·.setIfInBounds j u) { cls:=.type "list",data:=.seq its.toArray n }={ cls:=.type "list",data:=.seq (its.set j u).toArray n }:=by simp[Obj.mapSeq]
theorem Inv.lst{pins:zAO}{σ:St}{H:Hp}{s:Shared}{p:Addr}{xs:List V}(I:Inv X pins σ H s)(h:H p=some (.lst xs)) :
   ∃(its:List Value) (n:Nat),Vals xs its/\s.heap.get? p=some { cls:=.type "list",data:=.seq its.toArray n }/\xs.length<=sizeLine:=by
 obtain⟨z,its,n,r,e⟩:=I.hok p _ h;exact⟨its,n,r,e,z⟩
theorem Inv.lstUpd{pins:zAO}{σ:St}{H:Hp}{s:Shared}{p:Addr}{xs ys:List V}{its its':List Value}{n n':Nat}{f:Obj->Obj}(I:Inv X pins σ H s)(h:H p=some (.lst xs))
   (ho:s.heap.get? p=some { cls:=.type "list",data:=.seq its.toArray n }) (hf:f { cls:=.type "list",data:=.seq its.toArray n }={ cls:=.type "list",data:=.seq its'.toArray n' }) (r:Vals ys its') (hz:ys.length<=sizeLine) (t:Nat) :
   Inv X pins σ (upd H p (.lst ys)) { s with heap:=s.heap.update p f,toks:=t }:=by
 have e:(s.heap.update p f).get? p=some { cls:=.type "list",data:=.seq its'.toArray n' }:=by rw[z52 f ho (by rw[hf]<;>rfl),hf]
 refine I.write (x:=p) (e:=p) (by rw[h];trivial) (.inl rfl) (fun b u hb q=>(z5q _ _ (z5x hb)).trans q) ⟨_,e⟩ ?_;exact⟨hz,its',n',r,e⟩
def z1j:V->V->V->Hp->(Hp->Prop)->Prop:=fun o i v H Q=>∃p xs k j,o=.ref p/\i=.int k/\H p=some (.lst xs)/\ixN xs.length k=some j/\Q (upd H p (.lst (xs.set j v)))
theorem zp9:z3y X z1j:=by
 intro pins s σ H o i v ov iv u Q I ro ri rv h;obtain⟨p,xs,k,j,rfl,rfl,hp,hj,q⟩:=h;cases ro;obtain⟨t,rfl⟩:=ri;obtain⟨its,n,r,ho,hz⟩:=I.lst hp;obtain⟨h1,h2,h3,h4⟩:=zoi hj;have hl:=r.length;have hn:=zf8;have I':Inv X pins σ (upd H p (.lst (xs.set j v))) { s with heap:=s.heap.update p (Obj.mapSeq (·.setIfInBounds j u)) } :=
   I.lstUpd hp ho (zly its n j u) (r.set rv j) (by rw[z5a];exact hz) s.toks
 by_cases h0:0<=k
 · have hk:k.toNat=j:=by rw[seqIndex_of h0 h4]at h1;exact z5s h1
   exact PySem.W.ki_setAt ho h0 (by omega) (by rw[z46,<-hl];exact h4) (by rw[hk];exact⟨_,I',q⟩)
 · have hk:(k+(its.toArray.size:Int)).toNat=j:=by rw[seqIndex_neg (by omega) h3]at h1;rw[z46,<-hl];exact z5s h1
   exact PySem.W.ki_setBack ho (by omega) (by rw[z46,<-hl];exact h3) (by omega) (by rw[hk];exact⟨_,I',q⟩)
theorem zh4(lo hi:Option Int)(n:Nat):(sliceBounds lo hi none n).1=((HT.sIx n 0 lo:Nat):Int)/\(sliceBounds lo hi none n).2.1=((HT.sIx n n hi:Nat):Int)/\(sliceBounds lo hi none n).2.2=1:=by
 refine⟨?_,?_,rfl⟩
 · cases lo with
   |none=>simp[sliceBounds,HT.sIx]
   | some i=>
     simp only[sliceBounds,HT.sIx,Option.getD_none,show(1:Int)>0 by decide,z64];by_cases h:i<0
     · simp only[h,z64]<;>omega
     · simp only[h,z69]<;>omega
 · cases hi with
   |none=>simp[sliceBounds,HT.sIx]
   | some i=>
     simp only[sliceBounds,HT.sIx,Option.getD_none,show(1:Int)>0 by decide,z64];by_cases h:i<0
     · simp only[h,z64]<;>omega
     · simp only[h,z69]<;>omega
theorem zgr(its:List Value)(lo hi:Option Int):slicePick its.toArray lo hi none=((its.drop (HT.sIx its.length 0 lo)).take (HT.sIx its.length its.length hi-HT.sIx its.length 0 lo)).toArray:=by obtain⟨h1,h2,h3⟩:=zh4 lo hi its.toArray.size;unfold slicePick;rw[h1,h2,h3];simp only[sliceRange_one,pick_run,z46]<;>rfl
def z4g(K:zFr):V->Option Int->Option Int->Hp->VK->Prop:=fun x lo hi H Q=>∃a xs,x=.ref a/\SqL K H a xs/\∀p,H p=none->Q (.ref p) (upd H p (.lst (zsz xs lo hi)))
theorem sl_list:SlR X (z4g X.K):=by intro pins s σ H x v vl vu lo hi sl Q I rx hs pl pu h;obtain⟨a,xs,rfl,hx,q⟩:=h;cases rx;obtain⟨its,r,ht,hz⟩:=I.list hx;have hlen:=r.length;refine⟨"list",_,slot_list_getitem.lookup,ht.isList.typeIs,?_⟩;refine wpAny_getItem_list_slice ht.isList hs pl pu .none (by simp) ?_ (by rw[z46]<;>omega);rw[zgr,<-hlen];refine⟨.ref s.heap.objs.size,_,I.laid (t':=s.toks) (o:=.lst (zsz xs lo hi)) (fun b ob q=>z42 _ q) (z45 _) ?_,rfl,q _ (I.hok.fresh (z45 _))⟩;exact⟨z5p (zfg xs lo hi) hz,_,0,(r.drop (HT.sIx xs.length 0 lo)).take (HT.sIx xs.length xs.length hi-HT.sIx xs.length 0 lo),z5u _ rfl⟩
def zc1:V->Bool
 | .non=>true
 | .bl _=>true
 | .int _=>true
 | .str _=>true
 |_=>false
def eqV:V->V->Bool
 | .non,.non=>true
 | .bl a,.bl b=>a==b
 | .bl a,.int b=>(if a then 1 else 0)==b
 | .int a,.bl b=>a==(if b then 1 else 0)
 | .int a,.int b=>a==b
 | .str a,.str b=>a==b
 |_,_=>false
theorem zo3{A:Around}{s:Shared}{y x:V}{u v:Value}(ry:RelV y u)(rx:RelV x v)(fy:zc1 y=true)(fx:zc1 x=true):SeqAt.EqAt A s u v (eqV y x):=by
 cases y with
 | non=>
   cases ry;cases x with
   |non=>cases rx;exact SeqAt.EqAt.same _
   |bl b=>cases rx;exact SeqAt.EqAt.none_bool b
   |int b=>obtain⟨t,rfl⟩:=rx;exact SeqAt.EqAt.none_int b t
   |str b=>obtain⟨t,rfl⟩:=rx;exact SeqAt.EqAt.none_str b t
   |_=>exact absurd (show false=true from fx) z58
 | bl a=>
   cases ry;cases x with
   |non=>cases rx;exact SeqAt.EqAt.bool_none a
   |bl b=>cases rx;exact SeqAt.EqAt.bool_bool a b
   |int b=>obtain⟨t,rfl⟩:=rx;exact SeqAt.EqAt.bool_int a b t
   |str b=>obtain⟨t,rfl⟩:=rx;exact SeqAt.EqAt.bool_str a b t
   |_=>exact absurd (show false=true from fx) z58
 | int a=>
   obtain⟨t',rfl⟩:=ry;cases x with
   |non=>cases rx;exact SeqAt.EqAt.int_none a t'
   |bl b=>cases rx;exact SeqAt.EqAt.int_bool a t' b
   |int b=>obtain⟨t,rfl⟩:=rx;exact SeqAt.EqAt.int_int a t' b t
   |str b=>obtain⟨t,rfl⟩:=rx;exact SeqAt.EqAt.int_str a t' b t
   |_=>exact absurd (show false=true from fx) z58
 | str a=>
   obtain⟨t',rfl⟩:=ry;cases x with
   |non=>cases rx;exact SeqAt.EqAt.str_none a t'
   |bl b=>cases rx;exact SeqAt.EqAt.str_bool a t' b
   |int b=>obtain⟨t,rfl⟩:=rx;exact SeqAt.EqAt.str_int a t' b t
   |str b=>obtain⟨t,rfl⟩:=rx;exact SeqAt.EqAt.str_str a t' b t
   |_=>exact absurd (show false=true from fx) z58
 |_=>exact absurd (show false=true from fy) z58
def eqU(x:V)(u:Value):Bool:=match u with
 | .none=>eqV .non x
 | .bool b=>eqV (.bl b) x
 | .int i _=>eqV (.int i) x
 | .str z _=>eqV (.str z) x
 |_=>false
theorem zst{x y:V}{u:Value}(r:RelV y u)(f:zc1 y=true):eqU x u=eqV y x:=by
 cases y with
 |non=>cases r;rfl
 |bl b=>cases r;rfl
 |int i=>obtain⟨t,rfl⟩:=r;rfl
 |str z=>obtain⟨t,rfl⟩:=r;rfl
 |_=>exact absurd (show false=true from f) z58
theorem zj8{x:V}:∀{xs:List V}{us:List Value},Vals xs us->xs.all zc1=true->us.any (eqU x)=xs.any fun y=>eqV y x
 |_,_,.nil,_=>rfl
 | y::xs,u::us,.cons r t,f=>by rw[List.all_cons,z5k]at f;rw[List.any_cons,List.any_cons,zst r f.1,zj8 t f.2]
theorem zg1{A:Around}{s:Shared}{x:V}{v:Value}(rx:RelV x v)(fx:zc1 x=true):∀{xs:List V}{us:List Value},Vals xs us->xs.all zc1=true->∀u∈us,SeqAt.EqAt A s u v (eqU x u)
 |_,_,.nil,_=>fun u hu=>by cases hu
 | y::xs,u::us,.cons r t,f=>fun u' hu=>by
   rw[List.all_cons,z5k]at f;rcases z5z.mp hu with rfl | hu
   · rw[zst r f.1];exact zo3 r rx f.1 fx
   · exact zg1 rx fx t f.2 u' hu
def inV(x:V)(xs:List V):Bool:=xs.any fun y=>eqV y x
def rIn(K:zFr)(neg:Bool):R2:=fun x y H Q=>∃p xs,y=.ref p/\(SqL K H p xs\/SqT K H p xs)/\zc1 x=true/\xs.all zc1=true/\Q (.bl (if neg then !inV x xs else inV x xs)) H
theorem zn0:OpR X (compareOp .In) (rIn X.K false):=by
 intro pins s σ H x y v u Q I rx ry h;obtain⟨p,xs,rfl,hq,fx,fs,q⟩:=h;cases ry;rcases hq with hq | hq
 · obtain⟨its,r,pl,hz⟩:=I.list hq;refine SeqAt.in_listAt (eqU x) pl.isList (fun w hw=>zg1 rx fx r fs w (by simpa using hw)) ⟨.bl _,H,I,rfl,?_⟩;rw[show its.toArray.any (eqU x)=its.any (eqU x) by simp,zj8 r fs];exact q
 · obtain⟨its,r,pl,hz⟩:=I.tuple hq;refine SeqAt.in_tupleAt (eqU x) pl (fun w hw=>zg1 rx fx r fs w (by simpa using hw)) ⟨.bl _,H,I,rfl,?_⟩;rw[show its.toArray.any (eqU x)=its.any (eqU x) by simp,zj8 r fs];exact q
theorem call_len_seq:CallR X (.builtin "len") (fun xs H Q=>∃p ys,xs=[.ref p]/\(SqL X.K H p ys\/SqT X.K H p ys)/\Q (.int ys.length) H):=by
 intro pins s σ H xs us Q I r h;obtain⟨p,ys,rfl,hq,q⟩:=h;obtain⟨u,rfl,rx⟩:=zlf r;cases rx;have hn:=zf8;rcases hq with hq | hq
 · obtain⟨its,r',pl,hz⟩:=I.list hq;have hlen:=r'.length;exact Calls.call_len_list pl.isList (by simp only[z46]<;>omega) ⟨.int ys.length,H,I.tok _,⟨s.toks+1,by rw[z46,hlen]⟩,q⟩
 · obtain⟨its,r',pl,hz⟩:=I.tuple hq;have hlen:=r'.length;exact len_tuple pl (by simp only[z46]<;>omega) ⟨.int ys.length,H,I.tok _,⟨s.toks+1,by rw[z46,hlen]⟩,q⟩
theorem ziq:CallR X (.builtin "len") (fun xs H Q=>∃z,xs=[.str z]/\z.length<=sizeLine/\Q (.int z.length) H):=by intro pins s σ H xs us Q I r h;obtain⟨z,rfl,hz,q⟩:=h;obtain⟨u,rfl,t,rfl⟩:=zlf r;have hn:=zf8;exact len_str (by omega) ⟨.int z.length,H,I.tok _,⟨_,rfl⟩,q⟩
theorem CallR.or{f:Value}{r r':List V->Hp->VK->Prop}(h:CallR X f r)(h':CallR X f r'):CallR X f (fun xs H Q=>r xs H Q\/r' xs H Q):=by
 intro pins s σ H xs us Q I rs q;rcases q with q | q
 · exact h pins s σ H xs us Q I rs q
 · exact h' pins s σ H xs us Q I rs q
theorem zio:CallR X (.type "list") (fun xs H Q=>∃p ys,xs=[.ref p]/\(SqL X.K H p ys\/SqT X.K H p ys)/\∀l,H l=none->Q (.ref l) (upd H l (.lst ys))):=by
 intro pins s σ H xs us Q I r h;obtain⟨p,ys,rfl,hq,q⟩:=h;obtain⟨u,rfl,rx⟩:=zlf r;cases rx;have fin:∀(its:List Value),Vals ys its->ys.length<=sizeLine->∀(h':Heap) (c':Nat),(∀b o',s.heap.get? b=some o'->h'.get? b=some o') ->
     h'.get? s.heap.objs.size=some { cls:=.type "list",dict:=none,data:=.seq its.toArray c',slots:=#[] }->EP X pins σ Q (.ref s.heap.objs.size) { s with heap:=h' }:=fun its r' hz h' c' kp e=>
   ⟨.ref s.heap.objs.size,_,I.laid (t':=s.toks) kp (z45 _) (show ObjOk X.prog X.w _ h' _ (.lst ys) from⟨hz,its,c',r',e⟩),rfl,q _ (I.hok.fresh (z45 _))⟩
 rcases hq with hq | hq
 · obtain⟨its,r',pl,hz⟩:=I.list hq;have hlen:=r'.length;obtain⟨o,ho,hc,n,hd⟩:=pl.isList;exact call_list_seq p (.inl rfl) ho hc hd (fun h' c' kp e=>fin its r' hz h' c' kp e) (by simp only[z46]<;>omega)
 · obtain⟨its,r',pl,hz⟩:=I.tuple hq;have hlen:=r'.length;obtain⟨o,ho,hc,n,hd⟩:=pl;exact call_list_seq p (.inr rfl) ho hc hd (fun h' c' kp e=>fin its r' hz h' c' kp e) (by simp only[z46]<;>omega)
def tyV(K:zFr)(T:String)(x:V)(H:Hp):Prop:=match x with
 | .str _=>T="str"
 | .int _=>T="int"
 | .ref p=>(T="list"/\∃xs,SqL K H p xs)\/(T="tuple"/\∃o,K.lookup p=some o/\o.cls=.type "tuple"/\o.dict=none) \/
     (T="dict"/\((∃kvs,H p=some (.dK kvs))\/∃kvs,H p=some (.dT kvs)))\/(T="set"/\∃S n,H p=some (.set S n))
 |_=>False
theorem zwl{pins:zAO}{σ:St}{H:Hp}{s:Shared}{T:String}{x:V}{v:Value}(I:Inv X pins σ H s)(r:RelV x v)(ty:tyV X.K T x H) :
   s.TypeIs v T/\∀a,v=.ref a->∃ob,s.heap.get? a=some ob/\ob.dict=none:=by
 cases x with
 | str z=>
   obtain⟨t,rfl⟩:=r;cases(show T="str" from ty);exact⟨typeIs_str s z t,fun _ e=>nomatch e⟩
 | int i=>
   obtain⟨t,rfl⟩:=r;cases(show T="int" from ty);exact⟨typeIs_int s i t,fun _ e=>nomatch e⟩
 | ref p=>
   cases r;rcases ty with⟨rfl,xs,hq⟩ | ⟨rfl,o,hk,hc,hd⟩ | ⟨rfl,hk⟩ | ⟨rfl,S,n,hk⟩
   · obtain⟨its,_,pl,_⟩:=I.list hq;refine⟨pl.isList.typeIs,fun a e=>?_⟩;cases e;obtain⟨o,n,e,c,hd,_⟩:=pl;exact⟨o,e,hd⟩
   · refine⟨⟨o,I.kIn p o hk,hc⟩,fun a e=>?_⟩;cases e;exact⟨o,I.kIn _ o hk,hd⟩
   · have z:∃o,s.heap.get? p=some o/\o.ExactDict:=by
       rcases hk with⟨kvs,hk⟩ | ⟨kvs,hk⟩
       · obtain⟨_,_,_,_,o,_,_,e,ex,_⟩:=I.hok p _ hk;exact⟨o,e,ex⟩
       · obtain⟨_,_,_,_,o,_,_,e,ex,_⟩:=I.hok p _ hk;exact⟨o,e,ex⟩
     obtain⟨o,e,ex⟩:=z;refine⟨⟨o,e,ex.1⟩,fun a e2=>?_⟩;cases e2;exact⟨o,e,ex.2.1⟩
   · obtain⟨o,_,_,_,e,ex,_⟩:=I.hok p _ hk;refine⟨⟨o,e,ex.1⟩,fun a e2=>?_⟩;cases e2;exact⟨o,e,ex.2.1⟩
 |_=>exact False.elim ty
def tBM(K:zFr)(T:String)(r:V->List V->Hp->VK->Prop)(to:TE)(t:TA):TE:=fun σ H Q=>to σ H fun x H1=>tyV K T x H1/\t σ H1 fun xs H2=>r x xs H2 Q
variable {o e:Expr}{es:List Expr}{to:TE}{t:TA}{name:Str}{apos cpos:Pos}{T id:String}{r:V->List V->Hp->VK->Prop}
theorem z1s(pa:PlainAttrs T)(slot:Slot T name id)(hty:typeOf (.builtin id)=pure (.type "method_descriptor"))(hm:MtR X id r)(ho:PE X o to)(ha:PA X (e::es) t)
   (hbase:attributeBase o name X.env (eval o X.env)=eval o X.env:=by rfl)
   (hfew:((backTo cpos (starEach (e::es) X.env)).all (fun x=>!x.1)&&(backToKw cpos (keywordEach [] X.env)).all (fun x=>x.1.isSome)
     && decide ((e::es).length+([]:List Keyword).length+(if([]:List Keyword).isEmpty then 0 else 1)<30))=true:=by rfl)
   (hline:(apos.endLine==cpos.line)=true:=by rfl) (hs:starEach (e::es) X.env=(false,eval e X.env)::starEach es X.env:=by rfl) (hplain:(backTo cpos (starEach es X.env)).any (·.1)=false:=by rfl) :
   PE X (.Call (.Attribute o name apos) (e::es) [] cpos) (tBM X.K T r to t):=by
 intro pins s σ H Q I h;refine wpAny_Call_method_late hbase hfew hline rfl (thn (ho pins s σ H _ I h) fun v s1 ⟨x,H1,I1,r1,ty,q1⟩=>?_);obtain⟨h1,h2⟩:=zwl I1 r1 ty;refine⟨T,id,pa,slot,hty,h1,h2,?_⟩;have hA:=ha cpos pins s1 σ H1 _ I1 q1;rw[hs]at hA ⊢;refine Calls.callWith_builtin (by show(false||(backTo cpos (starEach es X.env)).any (·.1))=false;rw[hplain]<;>rfl) (z74 ?_);exact thn hA fun us s2 ⟨vs,H2,I2,r2,q2⟩=>hm pins s2 σ H2 x vs v us Q I2 r1 r2 q2
/- xs.append(e),list.index on a module's tuple .. are MtR facts of 06m -/
end
def MtM(X:Cx)(id:String)(r:V->List V->Hp->VK->Prop):Prop :=
 ∀(pins:zAO) (s:Shared) (σ:St) (H:Hp) (x:V) (xs:List V) (v:Value) (us:List Value) (Q:VK),Inv X pins σ H s->RelV x v->Vals xs us->r x xs H Q ->
   wpAny (model X.prog X.w) X.A (call (.builtin id) (v::us)) (EP X pins σ Q) X.xe s
theorem Vals.one:∀{x:V}{us:List Value},Vals [x] us->∃u,us=[u]/\RelV x u
 |_,_,.cons r .nil=>⟨_,rfl,r⟩
theorem Vals.dropLast{xs:List V}{us:List Value}(h:Vals xs us):Vals xs.dropLast us.dropLast:=by
 induction h with
 |nil=>exact .nil
 | cons r t ih=>
   cases t with
   |nil=>exact .nil
   |cons q t'=>exact .cons r ih
theorem Vals.reverse{xs:List V}{us:List Value}(h:Vals xs us):Vals xs.reverse us.reverse:=by
 induction h with
 |nil=>exact .nil
 |cons r t ih=>rw[z7v,z7v];exact Vals.append ih (.cons r .nil)
section
variable {X:Cx}{pins:zAO}{σ:St}{H:Hp}{s:Shared}{l b:Addr}{xs ys zs:List V}
theorem Inv.lset{its its':List Value}{n:Nat}{f:Array Value->Array Value}{t':Nat}(I:Inv X pins σ H s)(hH:H l=some (.lst xs))
   (e:s.heap.get? l=some { cls:=.type "list",data:=.seq its.toArray n }) (hf:f its.toArray=its'.toArray) (hv:Vals ys its') (hz:ys.length<=sizeLine) :
   Inv X pins σ (upd H l (.lst ys)) { s with heap:=s.heap.update l (Obj.mapSeq f),toks:=t' }:=by
 have q:=PySem.IsL.update e f;rw[hf]at q;refine I.write (x:=l) (e:=l) (by rw[hH];exact trivial) (.inl rfl) (fun b' u hb hu=>(z5q s.heap (Obj.mapSeq f) (z5x hb)).trans hu) ⟨_,q⟩ ?_;exact⟨hz,its',_,hv,q⟩
theorem Inv.lnew{its:List Value}{t':Nat}(I:Inv X pins σ H s)(hv:Vals ys its)(hz:ys.length<=sizeLine) :
   Inv X pins σ (upd H s.heap.objs.size (.lst ys)) { s with heap:=s.heap.push { cls:=.type "list",data:=.seq its.toArray },toks:=t' } :=
 I.laid (fun _ _ q=>z42 _ q) (z45 _) ⟨hz,its,0,hv,z5u _ rfl⟩
theorem Inv.fresh(I:Inv X pins σ H s):H s.heap.objs.size=none:=I.hok.fresh (z45 _)
theorem Inv.lstM(I:Inv X pins σ H s)(hH:H l=some (.lst xs)):xs.length<=sizeLine/\∃(its:List Value) (n:Nat),Vals xs its/\xs.length=its.length/\s.heap.get? l=some { cls:=.type "list",data:=.seq its.toArray n }:=by obtain⟨z,its,n,r,e⟩:=I.hok l _ hH;exact⟨z,its,n,r,r.length,e⟩
end
section
variable {X:Cx}
def zua:V->List V->Hp->VK->Prop:=fun x vs H Q=>∃l xs y,x=.ref l/\vs=[y]/\H l=some (.lst xs)/\xs.length<sizeLine/\Q .non (upd H l (.lst (xs++[y])))
theorem zn6:MtM X "list.append" zua:=by intro pins s σ H x vs v us Q I rx rv h;obtain⟨l,xs,y,rfl,rfl,hH,hz,q⟩:=h;cases rx;obtain⟨u,rfl,ru⟩:=rv.one;obtain⟨z,its,n,r,hl,e⟩:=I.lstM hH;refine call_meets F.slot_list_append ⟨_,e,rfl⟩ F.entry_list_append (F.args_list_append_2 _ _) (PySem.list_append l its.toArray n u (by rw[z46];omega)) ⟨e,?_⟩;refine⟨.non,_,I.lset (its':=its++[u]) hH e (by simp) (r.append (.cons ru .nil)) ?_,rfl,q⟩;rw[z41,List.length_singleton];omega
end
end L2
namespace Att
open PySem PySem.W PySem.Calls PyProof.Rows
theorem ze5{P:Params}{h:Heap}:∀(ns:List Int) (vs:List Value),WellAll P h vs (ns.map WData.int)->IntsAre vs ns:=by
 intro ns
 induction ns with
 | nil=>
   intro vs w;rw[z8y]at w;cases w;exact .nil
 | cons n ns ih=>
   intro vs w;rw[z5v]at w;cases w with
   | cons a b=>
     cases a;exact .cons _ _ (ih _ b)
theorem zne{l:OpenLaw}{n:Nat}(hn:l.most=some n){P:Params}{h:Heap}{args:List WData}{vals:List Value}
   (hpre:l.row.toRowW.claim.pre args=true) (hwl:WellAll P h vals args) :
   ∃a vs ns,vals=[Value.ref a]/\args=[WData.list (ns.map WData.int)]/\h.get? a=some { cls:=.type "list",data:=.seq vs.toArray }/\IntsAre vs ns/\ns.length<=n:=by
 have hsh:WShape.hasAll [] args [.list .int]=true:=(pre_splitW hpre).1;have hc:l.pre.holds [] { args:=args }=true:=(pre_splitW hpre).2;obtain⟨d,r,rfl,h1,h2⟩:=hasAllW_cons hsh;obtain rfl:=hasAllW_nil h2;obtain⟨xs,rfl,h3⟩:=hasW_list h1;obtain⟨ns,rfl⟩:=items_int h3;have hlen:ns.length<=n:=by
   unfold OpenLaw.pre at hc;have h4:(WTm.not (.lt (.lit (.int (n:Int))) (.len (.arg 0)))).holds [] { args:=[.list (ns.map .int)] }=true:=by have h4:=(holds_andW hc).1;rw[hn]at h4;exact h4
   have h5:=condW_of h4 (w_not (w_lt w_lit (w_len_list (w_arg rfl))));rw[z6b]at h5;refine Nat.le_of_not_lt fun q=>?_;have q':(n:Int)<((ns.length:Nat):Int):=by omega
   first
     | (rw[z49 q']at h5;exact absurd h5 (by decide))
     | (simp at h5;omega)
 cases hwl with
 | cons w1 w2=>
   cases w2;cases w1 with
   |list ho hall=>exact⟨_,_,ns,rfl,rfl,ho,ze5 ns _ hall,hlen⟩
theorem zns(l:OpenLaw)(args:List WData):l.row.toRowW.claim.post args (.bool true) args=true :=
 postW_of (r:=l.row.toRowW) (X:=(true==true))
   (show WShape.has [] (.bool true) .bool=true by first | rfl | decide | simp[WShape.has,WShape.arms,WShape.armsAll])
   (show(WTm.eq .res (.lit (.bool true))).value [] { args:=args,res:=some (.bool true),after:=args }=some (.bool (true==true))from w_eq_bool (w_res rfl) w_lit) rfl
theorem attach_call{l:OpenLaw}{n:Nat}{q:Program}{loose:List Str}{XP:(zMg)->Heap->Prop}{YP:World->Heap->Prop}{d:DefRec}
   (hn:l.most=some n) (hdf:d.params.defaults=[])
   (call:∀(w:World) (s₀ s₁:Shared) (mg mb:zMg) (fa:Addr) (o:Obj) (pm cd doc:Value) (a:Addr) (vs:List Value) (ns:List Int),
     Ground q loose [] XP w s₀ mg mb s₁.heap->YP w s₁.heap ->
     s₁.heap.get? fa=some o->o.data=.func (docDef d.name d.params d.body d.scope pm cd doc)->s₁.heap.CodeRec cd d.name->mg d.name=some (.ref fa) ->
     s₁.heap.get? a=some { cls:=.type "list",data:=.seq vs.toArray }->IntsAre vs ns->ns.length<=n->s₁.gens=#[] ->
     codeAny (model l.prog w) callerA (.call (.ref fa) ⟨[.ref a],[]⟩) (fun r s'=>r=.ok (.ret (.bool true))/\OldK s₁.heap s'.heap/\s'.os=s₁.os/\AllBare s'.gens) s₁) :
   WalkO q loose XP YP l.row.toRowW d [] (fun f vs=>PySem.call f vs):=by
 intro w s₀ s₁ mg mb G Y fa o pm cd doc dV kV ho hd hcd hD hmg hg args vals as hpre hlay hrd hwl hlo;obtain rfl:dV=.none:=Dflts.none hD hdf;obtain rfl:kV=.none:=Dflts.noKw hD;obtain⟨a,vs,ns,rfl,rfl,hobj,hints,hlen⟩:=zne hn hpre hwl;refine enter_call (z7x (call w s₀ s₁ mg mb fa o pm cd doc a vs ns G Y ho (fd_plain hd) hcd hmg hobj hints hlen hg) fun r s' hq=>?_);obtain⟨rfl,h2,h3,h4⟩:=hq;exact⟨.inl ⟨.bool true,.bool true,[],rfl,fun _=>rfl,.bool true,zns l _,fun _=>⟨List.Pairwise.nil,fun _ hm=>(nomatch hm)⟩⟩,h2,h3,h4⟩
section
variable {prog:Program}{w:World}{A:Around}{E:zVP}{s:Shared}{K:Frag}
def z3o(h:Heap)(L d:Addr):zAO:=(List.range h.objs.size).filterMap fun a=>if a=L\/a=d then none else (h.get? a).map fun o=>(a,o)
end
end Att
namespace L2
open PySem PySem.Spec PyProof.Rows
theorem zhz:∀{vs:List Value}{ns:List Int},IntsAre vs ns->Vals (ns.map V.int) vs
 |_,_,.nil=>.nil
 |_,_,.cons n t h=>.cons ⟨t,rfl⟩ (zhz h)
def z0z(H:Hp):Prop:=∀b,H b=none\/∃o xs,H b=some (.frz o (.lst xs))
theorem zra{P:Program}{w:World}{K:zFr}{mg mb:zMg}{CX:CXT}{k:Nat}{fa a:Addr}{fd:FuncData}{x:Str}{sp:Sp}{s₁:Shared}{vs:List Value}{ns:List Int}
   (KX:K.In s₁.heap) (hns:s₁.heap.Ns mainGlobals mg) (hb:s₁.heap.Ns builtinsNs mb) (hbb:∀x:Str,x≠"__name__"->mb x=bootBuiltins x) (hlim:s₁.heap.NoLimit) (hg:s₁.gens=#[])
   (ha:s₁.heap.get? a=some { cls:=.type "list",data:=.seq vs.toArray }) (hi:IntsAre vs ns) (hl:ns.length<=sizeLine) (hr:Room k callerA)
   (F:∀base:Heap,K.In base->base.Ns mainGlobals mg->FnOk P w K mg base CX k fa fd [x] sp) (hbind:∀(s:Shared) (u:Value),BindsTo s fd ⟨[u],[]⟩ [(x,u)])
   (hsp:∀H:Hp,z0z H->SqL K H a (ns.map V.int)->sp [.ref a] H (fun v _=>v=.bl true) fun _ _ _=>False)
   (hCX:∀H e s',CX [] H s₁ (fun _ _ _=>False) e s'->False) :
   codeAny (model P w) callerA (.call (.ref fa) ⟨[.ref a],[]⟩) (fun r s'=>r=.ok (.ret (.bool true))/\OldK s₁.heap s'.heap/\s'.os=s₁.os/\AllBare s'.gens) s₁:=by
 have rv:=zhz hi;have lenV:=hi.length;have core:∀H:Hp,z0z H->SqL K H a (ns.map V.int)->HOk P w H s₁.heap->(∀b,H b≠none->b=a)->(H a≠none->K.lookup a=none) ->
     codeAny (model P w) callerA (.call (.ref fa) ⟨[.ref a],[]⟩) (fun r s'=>r=.ok (.ret (.bool true))/\OldK s₁.heap s'.heap/\s'.os=s₁.os/\AllBare s'.gens) s₁:=by
   intro H hO hS hok hA hK;have base_of:∀{b:Addr}{o:Obj},s₁.heap.get? b=some o->H b=none->(zrf s₁.heap H).get? b=some o:=fun e n=>zre e n;have noA:∀{b:Addr}{o:Obj}{es:Array DictEntry}{ep:Nat},s₁.heap.get? b=some o->o.data=.dict es ep->H b=none:=fun {b o es ep} e d=>by
     cases q:H b with
     |none=>rfl
     | some u=>
       have e':b=a:=hA b (by rw[q];simp);subst e';rw[ha]at e;cases e;have d':Data.seq vs.toArray _=Data.dict es ep:=d;cases d'
   have nsK:∀{b:Addr}{m:zMg},s₁.heap.Ns b m->(zrf s₁.heap H).Ns b m:=fun {b m} ⟨o,es,ep,e,d,r⟩=>⟨o,es,ep,base_of e (noA e d),d,r⟩
   have hKb:K.In (zrf s₁.heap H):=fun b o e=>base_of (KX b o e) (by
     cases q:H b with
     |none=>rfl
     | some u=>
       have e':b=a:=hA b (by rw[q];simp);subst e';rw[hK (by rw[q];simp)]at e;cases e)
   have hM:Mod K mg (zrf s₁.heap H):=⟨hKb,nsK hns,⟨mb,nsK hb,hbb⟩,let⟨mc,h1,h2⟩:=hlim;⟨mc,nsK h1,h2⟩⟩
   have e0:Env0 P w K mg (zrf s₁.heap H) callerA [] s₁ H:=⟨rfl,hM,fun b o e=>zur e,z8v (zoq _ _),trivial,fun b hb=>absurd (show b∈([]:List Addr)from hb) (by simp),hok,.of_eq hg⟩
   refine z7x ((F _ hKb (nsK hns)).run callerA [] s₁ H ⟨[.ref a],[]⟩ [.ref a] [.ref a] _ _ hr e0 (hbind s₁ (.ref a)) (.cons rfl .nil) (hsp H hO hS)) fun r s' h=>?_;cases r with
   |error e=>exact(hCX H e s' h).elim
   | ok fl=>
     cases fl with
     |next=>exact False.elim h
     |brk=>exact False.elim h
     |cont=>exact False.elim h
     | ret u=>
       obtain⟨v,H',os,bare,un,hok',r',q⟩:=h;have q':v=.bl true:=q;subst q';obtain rfl:u=Value.bool true:=r';refine⟨rfl,OldK.of_keep fun b o e=>?_,os,bare⟩;cases q:H b with
       |none=>exact un.keep b o e q (by intro z;exact absurd (show b∈([]:List Addr)from z) (by simp)) (by simp)
       | some u=>
         rcases hO b with z | ⟨ob,xs,z⟩
         · rw[q]at z;cases z
         · have z2:=un.frzs b ob _ z;obtain⟨e1,_⟩:=hok b _ z;obtain⟨e2,_⟩:=hok' b _ z2;rw[e]at e1;cases e1;exact e2
 cases hk:K.lookup a with
 | some o=>
   have e:=KX a o hk;rw[ha]at e;cases e;refine core (fun _=>none) (fun _=>.inl rfl) (.inr ⟨_,vs.toArray,_,hk,rfl,rfl,rfl,by rw[z46,lenV];exact hl,by simpa using rv⟩) (fun b u z=>by have z':(none:Option HO)=some u:=z;cases z') (fun b z=>absurd rfl z) fun z=>absurd rfl z
 | none=>
   refine core (fun b=>if b=a then some (.frz { cls:=.type "list",data:=.seq vs.toArray } (.lst (ns.map V.int)))else none) (fun b=>?_) (.inl (.inr ⟨{ cls:=.type "list",data:=.seq vs.toArray },z5o rfl⟩)) (fun b u z=>?_) (fun b z=>?_) fun _=>hk
   · by_cases hb:b=a
     · exact .inr ⟨_,_,z5o hb⟩
     · exact .inl (z5l hb)
   · by_cases hb:b=a
     · have z':=(z5o hb).symm.trans z;cases z';subst hb;exact⟨ha,by rw[z6b];exact hl,vs,_,rv,ha⟩
     · have z':=(z5l hb).symm.trans z;cases z'
   · by_cases hb:b=a
     · exact hb
     · exact absurd (z5l hb) z
abbrev KOf{K:zFr}{h:Heap}(_:K.In h):zFr:=K
theorem walk_of{l:PySem.W.OpenLaw}{n k:Nat}{q:Program}{loose:List Str}{XP:(zMg)->Heap->Prop}{YP:World->Heap->Prop}{d:DefRec}{K:Params->zFr}{CX:World->CXT}{sp:World->Sp}{x:Str}
   (hn:l.most=some n) (hn2:n<=sizeLine) (hdf:d.params.defaults=[]) (hr:Room k callerA)
   (hY:∀(w:World) (h:Heap),YP w h->(K w.params).In h)
   (F:∀(w:World) (mg:zMg) (fa:Addr) (h:Heap),(K w.params).In h->h.Ns mainGlobals mg->mg d.name=some (.ref fa) ->
     ∃fd:FuncData,(∀(s:Shared) (u:Value),BindsTo s fd ⟨[u],[]⟩ [(x,u)]) /\
       ∀base:Heap,(K w.params).In base->base.Ns mainGlobals mg->FnOk l.prog w (K w.params) mg base (CX w) k fa fd [x] (sp w))
   (hsp:∀(w:World) (H:Hp) (a:Addr) (ns:List Int),ns.length<=n->z0z H->SqL (K w.params) H a (ns.map V.int)->sp w [.ref a] H (fun v _=>v=.bl true) fun _ _ _=>False)
   (hCX:∀(w:World) (H:Hp) (s:Shared) (e:Value) (s':Shared),CX w [] H s (fun _ _ _=>False) e s'->False) :
   PySem.W.WalkO q loose XP YP l.row.toRowW d [] (fun f vs=>PySem.call f vs):=by
 refine Att.attach_call hn hdf fun w s₀ s₁ mg mb fa o pm cd doc a vs ns G Y ho hd hcd hmg hobj hints hlen hg=>?_;have KX:=hY w _ Y;obtain⟨fd,hb,hF⟩:=F w mg fa _ KX G.T.g hmg;exact zra KX G.T.g G.T.b G.T.builtins G.T.nolimit hg hobj hints (z5p hlen hn2) hr hF hb (fun H hO hS=>hsp w H a ns hlen hO hS) fun H e s'=>hCX w H s₁ e s'
end L2
/- THE LAST THEOREM (shape;LID,My.* are yours):
  My.Adr: a structure of the addresses that your layer names (classes,functions);My.Txt K t: a structure (Prop) of the equations over K;
  My.txt_mk:{K}{implicit addresses ..} (e1:nsIn K mainGlobals "law"=some (some (.ref f))) (e2:K.lookup f=some ⟨oc,od,.func (fnOf "law" "law" params body scope dV kV doc pm an cdv ct),sl⟩) (e3:codeIn K cdv "law"=true) ..:∃t,My.Txt K t
(the tactic k_is has no namespace: write k_is) -/
namespace L2
open PySem PySem.Spec PyProof.Rows
def ja(s:Stmt)(j:Nat):Stmt:=match s with
 | .ClassDef _ _ _ body _ _ _ _ _ _ _=>body.getD j (.Pass ⟨0,0,0,0⟩)
 |_=>.Pass ⟨0,0,0,0⟩
def zbv(s:Stmt):Arguments:=match s with
 | .FunctionDef _ a _ _ _ _ _ _ _ _=>a
 |_=>{ posonlyargs:=[],args:=[],vararg:=none,kwonlyargs:=[],kw_defaults:=[],kwarg:=none,defaults:=[] }
def xo(s:Stmt):List Stmt:=match s with
 | .FunctionDef _ _ b _ _ _ _ _ _ _=>b
 |_=>[]
def zg(s:Stmt):Scope:=match s with
 | .FunctionDef _ _ _ _ _ _ sc _ _ _=>sc
 |_=>{ kind:=.function,names:=[],isGenerator:=false,isCoroutine:=false }
abbrev CX0:CXT:=fun _ _ _ _ _ _=>False
abbrev E0:XK:=fun _ _ _=>False
theorem zlv{X:Cx}:zdc CX0 X E0:=fun _ _ _ _ _ _ _ h=>h.elim
theorem z2c{A B:Prop}(h:B):if false=true then A else B:=by rw[z5l z58];exact h
theorem z2b{A B:Prop}(h:A):if true=true then A else B:=by rw[z5o rfl];exact h
section
variable {X:Cx}{pins:zAO}{σ:St}{H:Hp}{s:Shared}{a:Addr}{y v:V}{u r:Value}{o:Option V}{A:Around}{E:zVP}
end
end L2
namespace F
open PySem L2
def zyj:Expr->Bool
 | .Starred ..=>false
 |_=>true
theorem qm{e:Expr}{es:List Expr}{env:Env}(h:zyj e=true):starEach (e::es) env=(false,eval e env)::starEach es env:=by cases e<;>first | rfl | cases h
theorem jy{pos:Pos}{env:Env}:∀{es:List Expr},es.all zyj=true->(backTo pos (starEach es env)).any (·.1)=false
 | [],_=>rfl
 | e::es,h=>by rw[List.all_cons,z5k]at h;rw[qm h.1];show(false||(backTo pos (starEach es env)).any (·.1))=false;rw[jy h.2];rfl
structure LT where
 params:Arguments
 body:Expr
 scope:Scope
 qual:Str
 caps:List Str:=[]
 cl:zLA:=[]
inductive D where
 |non | bl (b:Bool) | int (i:Int) | str (x:Str) | fn (x:Str) | ty (n:String)
 |tup (ds:List D) | lst (ds:List D) | obj (i:Nat) | lam (t:LT) | clo (t:LT) (vs:List D)
inductive MO where
 |lst (ds:List D) | ins (c:Str) (fs:List (Str×D)) | dct (kvs:List (Int×D)) | exc (c:Str) | tab (x q:Str) | xd (n:Str) (d:D) | xc (c:Str) (j:Nat)
abbrev Sto:=List MO
abbrev Ev:=List (Option D)
abbrev E:=Ev->Sto->Option (D×Sto)
abbrev B:=Ev->Sto->Option (Bool×Sto)
abbrev As:=Ev->Sto->Option (List D×Sto)
abbrev G:=List D->Sto->Option (D×Sto)
inductive Out where
 |nx (e:Ev) | rt (d:D) | bk (e:Ev) | ct (e:Ev)
abbrev C:=Ev->Sto->Option (Out×Sto)
def TupAt(K:zFr)(ρ:List Addr)(H:Hp)(p:Addr)(vs:List V):Prop :=
 (p∉ρ/\Rd H p (.tup vs))\/∃(o:Obj) (its:Array Value) (n:Nat),K.lookup p=some o/\o.cls=.type "tuple"/\o.data=.seq its n/\its.size<=sizeLine/\Vals vs its.toList
def LstAt(K:zFr)(ρ:List Addr)(H:Hp)(p:Addr)(vs:List V):Prop :=
 (p∉ρ/\Rd H p (.lst vs))\/∃(o:Obj) (its:Array Value) (n:Nat),K.lookup p=some o/\o.cls=.type "list"/\o.dict=none/\o.data=.seq its n/\its.size<=sizeLine/\Vals vs its.toList
theorem TupAt.sq{K ρ H p vs}(h:TupAt K ρ H p vs):SqT K H p vs:=by
 rcases h with⟨_,h⟩ | h
 · exact .inl h
 · exact .inr h
theorem LstAt.sq{K ρ H p vs}(h:LstAt K ρ H p vs):SqL K H p vs:=by
 rcases h with⟨_,h⟩ | h
 · exact .inl h
 · exact .inr h
def zvt(c:Addr)(q:Str):Heap->Prop:=fun h=>h.CodeRec (.ref c) q
def z4i(t:LT)(a c:Addr)(pm ct:Value):Heap->Prop:=fun h=>h.get? a=some (PySem.W.kla_obj "<lambda>" t.qual t.params t.body t.scope t.cl pm c ct)
def LamAt(ρ:List Addr)(H:Hp)(t:LT)(a:Addr):Prop:=a∉ρ/\∃c pm ct,c∉ρ/\H a=some (.ext (z4i t a c pm ct))/\H c=some (.ext (zvt c t.qual))
def z4o(t:LT)(cl:zLA)(a c:Addr)(pm ct:Value):Heap->Prop:=fun h=>h.get? a=some (PySem.W.kla_obj "<lambda>" t.qual t.params t.body t.scope cl pm c ct)
def Cells(ρ:List Addr)(H:Hp):List Str->List V->zLA->Prop
 | [],[],[]=>True
 |x::xs,u::us,p::cl=>p.1=x/\p.2∉ρ/\(∃(o:Obj) (w:Value),H p.2=some (.frz o (.own 0))/\o.data=.cell (some w)/\RelV u w)/\Cells ρ H xs us cl
 |_,_,_=>False
def CloAt(ρ:List Addr)(H:Hp)(t:LT)(us:List V)(a:Addr):Prop:=a∉ρ/\∃c pm ct cl,c∉ρ/\H a=some (.ext (z4o t cl a c pm ct))/\H c=some (.ext (zvt c t.qual))/\(cl.map (·.2)).Nodup/\Cells ρ H t.caps us cl
section
variable (K:zFr) (mg:zMg)
mutual
def Rep(ρ:List Addr)(H:Hp):D->V->Prop
 | .non,v=>v=.non
 | .bl b,v=>v=.bl b
 | .int i,v=>v=.int i
 | .str x,v=>v=.str x
 | .fn x,v=>∃a,v=.ref a/\mg x=some (.ref a)
 | .ty n,v=>v=.ty n
 | .tup ds,v=>∃p vs,v=.ref p/\TupAt K ρ H p vs/\RepL ρ H ds vs
 | .lst ds,v=>∃p vs,v=.ref p/\LstAt K ρ H p vs/\RepL ρ H ds vs
 | .obj i,v=>∃a,v=.ref a/\ρ[i]? = some a
 | .lam t,v=>∃a,v=.ref a/\LamAt ρ H t a
 | .clo t vs,v=>∃a us,v=.ref a/\CloAt ρ H t us a/\RepL ρ H vs us
def RepL(ρ:List Addr)(H:Hp):List D->List V->Prop
 | [],vs=>vs=[]
 |d::ds,vs=>∃v r,vs=v::r/\Rep ρ H d v/\RepL ρ H ds r
end
end
structure Ext (ρ:List Addr) (H:Hp) (ρ':List Addr) (H':Hp):Prop where
 pre:∀(i:Nat) (a:Addr),ρ[i]? = some a->ρ'[i]? = some a
 keep:∀b o,H b=some o->b∉ρ->H' b=some o
 new:∀b,b∈ρ'->b∉ρ->H b=none
theorem Ext.refl(ρ:List Addr)(H:Hp):Ext ρ H ρ H:=⟨fun _ _ h=>h,fun _ _ h _=>h,fun _ h n=>absurd h n⟩
theorem Ext.out{ρ ρ' H H'}(e:Ext ρ H ρ' H'){b:Addr}{o:HO}(h:H b=some o)(n:b∉ρ):b∉ρ':=fun z=>by have:=e.new b z n;rw[h]at this;cases this
theorem Ext.trans {ρ ρ' ρ'' H H' H''} (a:Ext ρ H ρ' H') (b:Ext ρ' H' ρ'' H''):Ext ρ H ρ'' H'' where
 pre:=fun i x h=>b.pre i x (a.pre i x h)
 keep:=fun c o h n=>b.keep c o (a.keep c o h n) (a.out h n)
 new:=fun c h n=>by
   by_cases z:c∈ρ'
   · exact a.new c z n
   · cases q:H c with
     |none=>rfl
     | some o=>
       have:=a.keep c o q n;rw[b.new c h z]at this;cases this
section
variable {K:zFr}{mg:zMg}{ρ ρ':List Addr}{H H':Hp}
theorem TupAt.mono{p vs}(h:TupAt K ρ H p vs)(e:Ext ρ H ρ' H'):TupAt K ρ' H' p vs:=by
 rcases h with⟨n,h | ⟨o,h⟩⟩ | h
 · exact .inl ⟨e.out h n,.inl (e.keep _ _ h n)⟩
 · exact .inl ⟨e.out h n,.inr ⟨o,e.keep _ _ h n⟩⟩
 · exact .inr h
theorem LstAt.mono{p vs}(h:LstAt K ρ H p vs)(e:Ext ρ H ρ' H'):LstAt K ρ' H' p vs:=by
 rcases h with⟨n,h | ⟨o,h⟩⟩ | h
 · exact .inl ⟨e.out h n,.inl (e.keep _ _ h n)⟩
 · exact .inl ⟨e.out h n,.inr ⟨o,e.keep _ _ h n⟩⟩
 · exact .inr h
theorem LamAt.mono{t a}(h:LamAt ρ H t a)(e:Ext ρ H ρ' H'):LamAt ρ' H' t a:=by obtain⟨n,c,pm,ct,nc,h1,h2⟩:=h;exact⟨e.out h1 n,c,pm,ct,e.out h2 nc,e.keep _ _ h1 n,e.keep _ _ h2 nc⟩
theorem Cells.mono(e:Ext ρ H ρ' H'):∀{xs:List Str}{us:List V}{cl:zLA},Cells ρ H xs us cl->Cells ρ' H' xs us cl
 | [],[],[],_=>trivial
 | x::xs,u::us,p::cl,h=>by obtain⟨h1,h2,⟨o,w,h3,h4⟩,h5⟩:=h;exact⟨h1,e.out h3 h2,⟨o,w,e.keep _ _ h3 h2,h4⟩,Cells.mono e h5⟩
 | [],[],_::_,h=>h.elim
 | [],_::_,_,h=>h.elim
 |_::_,[],_,h=>h.elim
 |_::_,_::_,[],h=>h.elim
theorem CloAt.mono{t us a}(h:CloAt ρ H t us a)(e:Ext ρ H ρ' H'):CloAt ρ' H' t us a:=by obtain⟨n,c,pm,ct,cl,nc,h1,h2,h3,h4⟩:=h;exact⟨e.out h1 n,c,pm,ct,cl,e.out h2 nc,e.keep _ _ h1 n,e.keep _ _ h2 nc,h3,h4.mono e⟩
mutual
theorem Rep.mono(e:Ext ρ H ρ' H'):∀{d:D}{v:V},Rep K mg ρ H d v->Rep K mg ρ' H' d v
 | .non,_,h=>h
 | .bl _,_,h=>h
 | .int _,_,h=>h
 | .str _,_,h=>h
 | .fn _,_,h=>h
 | .ty _,_,h=>h
 | .tup ds,_,h=>by unfold Rep at h ⊢;obtain⟨p,vs,e1,t,r⟩:=h;exact⟨p,vs,e1,t.mono e,RepL.mono e r⟩
 | .lst ds,_,h=>by unfold Rep at h ⊢;obtain⟨p,vs,e1,t,r⟩:=h;exact⟨p,vs,e1,t.mono e,RepL.mono e r⟩
 | .obj i,_,h=>by unfold Rep at h ⊢;obtain⟨a,e1,t⟩:=h;exact⟨a,e1,e.pre _ _ t⟩
 | .lam t,_,h=>by unfold Rep at h ⊢;obtain⟨a,e1,t⟩:=h;exact⟨a,e1,t.mono e⟩
 | .clo t vs,_,h=>by unfold Rep at h ⊢;obtain⟨a,us,e1,t,r⟩:=h;exact⟨a,us,e1,t.mono e,RepL.mono e r⟩
theorem RepL.mono(e:Ext ρ H ρ' H'):∀{ds:List D}{vs:List V},RepL K mg ρ H ds vs->RepL K mg ρ' H' ds vs
 | [],_,h=>h
 | d::ds,_,h=>by unfold RepL at h ⊢;obtain⟨v,r,e1,h1,h2⟩:=h;exact⟨v,r,e1,Rep.mono e h1,RepL.mono e h2⟩
end
theorem RepL.nil:RepL K mg ρ H [] []:=by unfold RepL;rfl
theorem RepL.cons{d ds v vs}(h:Rep K mg ρ H d v)(t:RepL K mg ρ H ds vs):RepL K mg ρ H (d::ds) (v::vs):=by unfold RepL;exact⟨v,vs,rfl,h,t⟩
theorem RepL.length:∀{ds:List D}{vs:List V},RepL K mg ρ H ds vs->ds.length=vs.length
 | [],_,h=>by unfold RepL at h;subst h;rfl
 | d::ds,_,h=>by unfold RepL at h;obtain⟨v,r,rfl,_,h2⟩:=h;rw[List.length_cons,List.length_cons,h2.length]
theorem RepL.get:∀{ds:List D}{vs:List V}{i:Nat}{d:D},RepL K mg ρ H ds vs->ds[i]? = some d->∃v,vs[i]? = some v/\Rep K mg ρ H d v
 | [],_,_,_,_,e=>by simp at e
 | d::ds,_,0,x,h,e=>by unfold RepL at h;obtain⟨v,r,rfl,h1,_⟩:=h;simp at e;subst e;exact⟨v,rfl,h1⟩
 | d::ds,_,i+1,x,h,e=>by unfold RepL at h;obtain⟨v,r,rfl,_,h2⟩:=h;obtain⟨u,e1,e2⟩:=RepL.get (i:=i) (d:=x) h2 (by simpa using e);exact⟨u,by simpa using e1,e2⟩
theorem RepL.append:∀{ds es:List D}{vs us:List V},RepL K mg ρ H ds vs->RepL K mg ρ H es us->RepL K mg ρ H (ds++es) (vs++us)
 | [],_,_,_,h,t=>by unfold RepL at h;subst h;exact t
 | d::ds,_,_,_,h,t=>by unfold RepL at h;obtain⟨v,r,rfl,h1,h2⟩:=h;exact RepL.cons h1 (RepL.append h2 t)
theorem RepL.take:∀{ds:List D}{vs:List V} (n:Nat),RepL K mg ρ H ds vs->RepL K mg ρ H (ds.take n) (vs.take n)
 |_,_,0,_=>by simpa using RepL.nil
 | [],_,_+1,h=>by unfold RepL at h;subst h;simpa using RepL.nil
 | d::ds,_,n+1,h=>by unfold RepL at h;obtain⟨v,r,rfl,h1,h2⟩:=h;exact RepL.cons h1 (RepL.take n h2)
theorem RepL.drop:∀{ds:List D}{vs:List V} (n:Nat),RepL K mg ρ H ds vs->RepL K mg ρ H (ds.drop n) (vs.drop n)
 |_,_,0,h=>by simpa using h
 | [],_,_+1,h=>by unfold RepL at h;subst h;simpa using RepL.nil
 | d::ds,_,n+1,h=>by unfold RepL at h;obtain⟨v,r,rfl,h1,h2⟩:=h;simpa using RepL.drop n h2
theorem RepL.reverse:∀{ds:List D}{vs:List V},RepL K mg ρ H ds vs->RepL K mg ρ H ds.reverse vs.reverse
 | [],_,h=>by unfold RepL at h;subst h;exact RepL.nil
 | d::ds,_,h=>by unfold RepL at h;obtain⟨v,r,rfl,h1,h2⟩:=h;rw[z7v,z7v];exact RepL.append (RepL.reverse h2) (RepL.cons h1 RepL.nil)
theorem RepL.set{x:D}{u:V}(q:Rep K mg ρ H x u):∀{ds:List D}{vs:List V} (n:Nat),RepL K mg ρ H ds vs->RepL K mg ρ H (ds.set n x) (vs.set n u)
 | [],_,_,h=>by unfold RepL at h;subst h;simpa using RepL.nil
 | d::ds,_,0,h=>by unfold RepL at h;obtain⟨v,r,rfl,h1,h2⟩:=h;exact RepL.cons q h2
 | d::ds,_,n+1,h=>by unfold RepL at h;obtain⟨v,r,rfl,h1,h2⟩:=h;exact RepL.cons h1 (RepL.set q n h2)
end
def zwg(K:zFr)(mg:zMg)(ρ:List Addr)(H:Hp)(fs:List (Str×D))(vs:List (Str×V)):Prop :=
 vs.map (·.1)=fs.map (·.1)/\RepL K mg ρ H (fs.map (·.2)) (vs.map (·.2))
def z29(K:zFr)(mg:zMg)(x:Str)(a:Addr):Prop:=∃(f:Addr) (o:Obj) (fd:FuncData) (c:Addr),mg x=some (.ref f)/\K.lookup f=some o/\o.data=.func fd/\fd.code=.ref c/\PySem.W.codeHdIn K c a=true
def MOk(K:zFr)(mg:zMg)(ρ:List Addr)(H:Hp)(a:Addr):MO->Prop
 | .lst ds=>∃vs,H a=some (.lst vs)/\RepL K mg ρ H ds vs
 | .ins c fs=>∃C dx vs,mg c=some (.ref C)/\H a=some (.ins C dx vs)/\zwg K mg ρ H fs vs
 | .dct kvs=>∃vs:List (Key×V),H a=some (.dK vs)/\vs.map (·.1)=kvs.map (fun p=>Sum.inl p.1)/\RepL K mg ρ H (kvs.map (·.2)) (vs.map (·.2))
 | .exc c=>∃C,mg c=some (.ref C)/\H a=some (.ext fun h=>∃o,h.get? a=some o/\o.cls=.ref C)
 | .tab x q=>z29 K mg x a/\∃ps:Array Value,H a=some (.tbl ps)/\TriplesOk ps.toList/\∀(pos:Pos) (cv:Value),codeAmong pos ps.toList=some cv->∃c,cv=.ref c/\c∉ρ/\H c=some (.ext (zvt c q))
 | .xd n d=>∃v,H a=some (.xd [(n,v)])/\Rep K mg ρ H d v
 | .xc c j=>∃C dx,mg c=some (.ref C)/\ρ[j]? = some dx/\H a=some (.ext fun h=>∃o vs,h.get? a=some o/\o.cls=.ref C/\o.dict=some dx/\o.data=.fields vs)
structure StOk (K:zFr) (mg:zMg) (ρ:List Addr) (H:Hp) (S:Sto):Prop where
 len:ρ.length=S.length
 nd:ρ.Nodup
 ob:∀(i:Nat) (m:MO) (a:Addr),S[i]? = some m->ρ[i]? = some a->MOk K mg ρ H a m
section
variable {K:zFr}{mg:zMg}{ρ ρ':List Addr}{H H':Hp}{S:Sto}
theorem MOk.mono{a m}(h:MOk K mg ρ H a m)(e:Ext ρ H ρ' H')(k:H' a=H a):MOk K mg ρ' H' a m:=by
 cases m with
 |lst ds=>obtain⟨vs,h1,h2⟩:=h;exact⟨vs,k.trans h1,h2.mono e⟩
 |ins c fs=>obtain⟨C,dx,vs,h0,h1,h2,h3⟩:=h;exact⟨C,dx,vs,h0,k.trans h1,h2,h3.mono e⟩
 |dct kvs=>obtain⟨vs,h1,h2,h3⟩:=h;exact⟨vs,k.trans h1,h2,h3.mono e⟩
 |exc c=>obtain⟨C,h1,h2⟩:=h;exact⟨C,h1,k.trans h2⟩
 | tab x q=>
   obtain⟨h0,ps,h1,h2,h3⟩:=h;exact⟨h0,ps,k.trans h1,h2,fun pos cv z=>let⟨c,z1,z2,z3⟩:=h3 pos cv z;⟨c,z1,e.out z3 z2,e.keep _ _ z3 z2⟩⟩
 |xd n d=>obtain⟨v,h1,h2⟩:=h;exact⟨v,k.trans h1,h2.mono e⟩
 |xc c j=>obtain⟨C,dx,h1,h2,h3⟩:=h;exact⟨C,dx,h1,e.pre _ _ h2,k.trans h3⟩
theorem MOk.some{a m}(h:MOk K mg ρ H a m):∃o,H a=some o:=by
 cases m with
 |lst ds=>obtain⟨vs,h1,h2⟩:=h;exact⟨_,h1⟩
 |ins c fs=>obtain⟨C,dx,vs,h0,h1,h2,h3⟩:=h;exact⟨_,h1⟩
 |dct kvs=>obtain⟨vs,h1,h2,h3⟩:=h;exact⟨_,h1⟩
 |exc c=>obtain⟨C,h1,h2⟩:=h;exact⟨_,h2⟩
 |tab x q=>obtain⟨_,ps,h1,_⟩:=h;exact⟨_,h1⟩
 |xd n d=>obtain⟨v,h1,h2⟩:=h;exact⟨_,h1⟩
 |xc c j=>obtain⟨C,dx,h1,h2,h3⟩:=h;exact⟨_,h3⟩
theorem StOk.at(s:StOk K mg ρ H S){i:Nat}{a:Addr}(h:ρ[i]? = some a):∃m,S[i]? = some m/\MOk K mg ρ H a m:=by
 have hi:i<ρ.length:=(z4y.mp h).1;have hj:i<S.length:=by rw[<-s.len];exact hi
 exact⟨S[i],z44 hj,s.ob i _ a (z44 hj) h⟩
theorem StOk.mem(s:StOk K mg ρ H S){a}(h:a∈ρ):∃o,H a=some o:=by obtain⟨i,hi,e⟩:=List.mem_iff_getElem.mp h;obtain⟨m,_,q⟩:=s.at (i:=i) (a:=a) (by rw[z44 hi,e]);exact q.some
theorem StOk.fresh(s:StOk K mg ρ H S){p}(h:H p=none):p∉ρ:=fun z=>by obtain⟨o,e⟩:=s.mem z;rw[h]at e;cases e
theorem yw(s:StOk K mg ρ H S){p:Addr}(o:HO)(h:H p=none):Ext ρ H ρ (upd H p o) :=
 ⟨fun _ _ e=>e,fun b u e _=>by rw[zz (qh e h)];exact e,fun _ z n=>absurd z n⟩
theorem StOk.new(s:StOk K mg ρ H S){p:Addr}(o:HO)(h:H p=none):StOk K mg ρ (upd H p o) S :=
 ⟨s.len,s.nd,fun i m a e1 e2=>by
   have q:=s.ob i m a e1 e2;obtain⟨u,z⟩:=q.some;exact q.mono (yw s o h) (zz (qh z h))⟩
theorem zhb(s:StOk K mg ρ H S){i:Nat}{a:Addr}(o:HO)(h:ρ[i]? = some a):Ext ρ H ρ (upd H a o) :=
 ⟨fun _ _ e=>e,fun b u e n=>by rw[zz (fun(z:b=a)=>n (by rw[z];exact z60 h))];exact e,fun _ z n=>absurd z n⟩
theorem zq1{l:List Addr}(hN:l.Nodup){i j:Nat}{x:Addr}(a:l[i]? = some x)(b:l[j]? = some x):i=j:=by obtain⟨h1,e1⟩:=z4y.mp a;obtain⟨h2,e2⟩:=z4y.mp b;exact(List.getElem_inj hN).mp (e1.trans e2.symm)
theorem StOk.set(s:StOk K mg ρ H S){i:Nat}{a:Addr}{o:HO}{m:MO}(h:ρ[i]? = some a)(q:MOk K mg ρ (upd H a o) a m):StOk K mg ρ (upd H a o) (S.set i m):=by
 refine⟨by rw[z5a];exact s.len,s.nd,fun j m' b e1 e2=>?_⟩;by_cases hj:j=i
 · subst hj;have hi:j<S.length:=by rw[<-s.len];exact(z4y.mp h).1
   rw[z5m hi]at e1;cases e1;rw[h]at e2;cases e2;exact q
 · rw[z43 (z5x hj)]at e1;exact(s.ob j m' b e1 e2).mono (zhb s o h) (zz fun z=>hj (zq1 s.nd (z▸e2) h))
theorem zco(s:StOk K mg ρ H S){p:Addr}(o:HO)(h:H p=none):Ext ρ H (ρ++[p]) (upd H p o) :=
 ⟨fun i a e=>by rw[z5h (z4y.mp e).1];exact e,fun b u e _=>by rw[zz (qh e h)];exact e,
   fun b z n=>by
     rcases z6m.mp z with z | z
     · exact absurd z n
     · rw[z5i.mp z];exact h⟩
theorem StOk.add(s:StOk K mg ρ H S){p:Addr}{o:HO}{m:MO}(h:H p=none)(q:MOk K mg (ρ++[p]) (upd H p o) p m):StOk K mg (ρ++[p]) (upd H p o) (S++[m]):=by
 refine⟨by rw[z41,z41,s.len]<;>rfl,?_,fun j m' b e1 e2=>?_⟩
 · rw[List.nodup_append];refine⟨s.nd,by simp,fun x hx y hy=>?_⟩;rw[z5i.mp hy];exact fun z=>s.fresh h (z▸hx)
 · by_cases hj:j<S.length
   · rw[z5h hj]at e1;rw[z5h (by rw[s.len];exact hj)]at e2;have q:=s.ob j m' b e1 e2;obtain⟨u,z⟩:=q.some;exact q.mono (zco s o h) (zz (qh z h))
   · rw[z5j (by omega)]at e1;rw[z5j (by rw[s.len];omega)]at e2;have e0:j-S.length=0:=by have:=(z4y.mp e1).1;simp at this;omega
     rw[e0]at e1;rw[s.len,e0]at e2;simp at e1 e2;subst e1 e2;exact q
theorem Rep.tup{p ds vs}{s:StOk K mg ρ H S}(h:H p=none)(r:RepL K mg ρ H ds vs):Rep K mg ρ (upd H p (.tup vs)) (.tup ds) (.ref p):=by unfold Rep;exact⟨p,vs,rfl,.inl ⟨s.fresh h,.inl jh⟩,r.mono (yw s _ h)⟩
theorem Rep.lst{p ds vs}{s:StOk K mg ρ H S}(h:H p=none)(r:RepL K mg ρ H ds vs):Rep K mg ρ (upd H p (.lst vs)) (.lst ds) (.ref p):=by unfold Rep;exact⟨p,vs,rfl,.inl ⟨s.fresh h,.inl jh⟩,r.mono (yw s _ h)⟩
end
structure EnvR (K:zFr) (mg:zMg) (ρ:List Addr) (H:Hp) (ev:Ev) (σ:St):Prop where
 len:ev.length=σ.length
 at_:∀(i:Nat) (d:D),ev[i]? = some (some d)->∃v,σ[i]? = some (some v)/\Rep K mg ρ H d v
section
variable {K:zFr}{mg:zMg}{ρ ρ':List Addr}{H H':Hp}{ev:Ev}{σ:St}
theorem EnvR.mono(h:EnvR K mg ρ H ev σ)(e:Ext ρ H ρ' H'):EnvR K mg ρ' H' ev σ :=
 ⟨h.len,fun i d q=>let⟨v,a,b⟩:=h.at_ i d q;⟨v,a,b.mono e⟩⟩
theorem EnvR.set(h:EnvR K mg ρ H ev σ){d v}(r:Rep K mg ρ H d v)(i:Nat):EnvR K mg ρ H (ev.set i (some d)) (σ.set i (some v)):=by
 refine⟨by rw[z5a,z5a];exact h.len,fun j x q=>?_⟩;by_cases hj:j=i
 · subst hj;have hi:j<ev.length:=by
     have:=(z4y.mp q).1
     rwa [z5a]at this
   rw[z5m hi]at q;cases q;exact⟨v,by rw[z5m (by rw[<-h.len];exact hi)],r⟩
 · rw[z43 (z5x hj)]at q ⊢;exact h.at_ j x q
theorem EnvR.start{N:List Str}{ds:List D}{vs:List V}(h:RepL K mg ρ H ds vs):EnvR K mg ρ H (ds.map some++List.replicate (N.length-ds.length) none) (L2.start N vs):=by
 have hl:=h.length;refine⟨by unfold L2.start;simp[hl],fun i d q=>?_⟩;have hi:i<ds.length:=by
   by_cases hi:i<ds.length
   · exact hi
   · rw[z5j (by simpa using hi),List.getElem?_replicate]at q;split at q<;>cases q
 rw[z5h (by simpa using hi),z50]at q;cases e:ds[i]? with
 |none=>rw[e]at q;cases q
 | some x=>
   rw[e]at q;cases q;obtain⟨v,e1,r⟩:=h.get e;refine⟨v,?_,r⟩;unfold L2.start;rw[z5h (by simpa [<-hl] using hi),z50,e1];rfl
end
section
variable (K:zFr) (mg:zMg)
def tE(f:E):TE:=fun σ H Q=>∃ρ ev S d S',EnvR K mg ρ H ev σ/\StOk K mg ρ H S/\f ev S=some (d,S') /\
 ∀v ρ' H',Ext ρ H ρ' H'->StOk K mg ρ' H' S'->Rep K mg ρ' H' d v->Q v H'
def tB(f:B):TT:=fun σ H Q=>∃ρ ev S b S',EnvR K mg ρ H ev σ/\StOk K mg ρ H S/\f ev S=some (b,S') /\
 ∀ρ' H',Ext ρ H ρ' H'->StOk K mg ρ' H' S'->Q b H'
def tAs(f:As):TA:=fun σ H Q=>∃ρ ev S ds S',EnvR K mg ρ H ev σ/\StOk K mg ρ H S/\f ev S=some (ds,S') /\
 ∀vs ρ' H',Ext ρ H ρ' H'->StOk K mg ρ' H' S'->RepL K mg ρ' H' ds vs->Q vs H'
def Post(D:Ends)(S':Sto)(ρ:List Addr)(H:Hp):Out->Prop
 | .nx e=>∀σ' ρ' H',Ext ρ H ρ' H'->StOk K mg ρ' H' S'->EnvR K mg ρ' H' e σ'->D.nx σ' H'
 | .bk e=>∀σ' ρ' H',Ext ρ H ρ' H'->StOk K mg ρ' H' S'->EnvR K mg ρ' H' e σ'->D.bk σ' H'
 | .ct e=>∀σ' ρ' H',Ext ρ H ρ' H'->StOk K mg ρ' H' S'->EnvR K mg ρ' H' e σ'->D.ct σ' H'
 | .rt d=>∀v ρ' H',Ext ρ H ρ' H'->StOk K mg ρ' H' S'->Rep K mg ρ' H' d v->D.rt v H'
def tC(f:C):TS:=fun D σ H=>∃ρ ev S o S',EnvR K mg ρ H ev σ/\StOk K mg ρ H S/\f ev S=some (o,S')/\Post K mg D S' ρ H o
def spG(g:G):Sp:=fun vs H Q _=>∃ρ ds S d S',RepL K mg ρ H ds vs/\StOk K mg ρ H S/\g ds S=some (d,S') /\
 ∀v ρ' H',Ext ρ H ρ' H'->StOk K mg ρ' H' S'->Rep K mg ρ' H' d v->Q v H'
end
theorem Post.ext{K mg}{D:Ends}{S':Sto}{ρ ρ' H H'}(e:Ext ρ H ρ' H'):∀{o:Out},Post K mg D S' ρ H o->Post K mg D S' ρ' H' o
 | .nx _,h=>fun σ' _ _ e'=>h σ' _ _ (e.trans e')
 | .bk _,h=>fun σ' _ _ e'=>h σ' _ _ (e.trans e')
 | .ct _,h=>fun σ' _ _ e'=>h σ' _ _ (e.trans e')
 | .rt _,h=>fun v _ _ e'=>h v _ _ (e.trans e')
def FE(X:Cx)(e:Expr)(f:E):Prop:=PE X e (tE X.K X.mg f)
def FB(X:Cx)(e:Expr)(f:B):Prop:=PT X e (tB X.K X.mg f)
def FW(X:Cx)(e:Expr)(f:B):Prop:=PW X e (tB X.K X.mg f)
def FA(X:Cx)(es:List Expr)(f:As):Prop:=PA X es (tAs X.K X.mg f)
def FS(X:Cx)(st:Stmt)(f:C):Prop:=PS X st (tC X.K X.mg f)
def FSs(X:Cx)(st:List Stmt)(f:C):Prop:=PSs X st (tC X.K X.mg f)
theorem j0{X:Cx}{e:Expr}{t t':TE}(h:PE X e t)(m:∀σ H Q,t' σ H Q->t σ H Q):PE X e t':=fun pins s σ H Q I q=>h pins s σ H Q I (m _ _ _ q)
theorem zdh{X:Cx}{e:Expr}{t t':TT}(h:PT X e t)(m:∀σ H Q,t' σ H Q->t σ H Q):PT X e t':=fun pins s σ H Q I q=>h pins s σ H Q I (m _ _ _ q)
theorem znp{X:Cx}{e:Expr}{t t':TT}(h:PW X e t)(m:∀σ H Q,t' σ H Q->t σ H Q):PW X e t':=fun w pins s σ H Q I q=>h w pins s σ H Q I (m _ _ _ q)
theorem znv{X:Cx}{e:List Expr}{t t':TA}(h:PA X e t)(m:∀σ H Q,t' σ H Q->t σ H Q):PA X e t':=fun pos pins s σ H Q I q=>h pos pins s σ H Q I (m _ _ _ q)
theorem y8{X:Cx}{e:Stmt}{t t':TS}(h:PS X e t)(m:∀σ H Q,t' Q σ H->t Q σ H):PS X e t':=fun pins s σ H Q I q=>h pins s σ H Q I (m _ _ _ q)
theorem zkp{X:Cx}{e:List Stmt}{t t':TS}(h:PSs X e t)(m:∀σ H Q,t' Q σ H->t Q σ H):PSs X e t':=fun pins s σ H Q I q=>h pins s σ H Q I (m _ _ _ q)
end F
namespace F
open PySem L2
noncomputable def eV(i:Nat):E:=fun ev S=>match ev[i]? with
 |some (some d)=>some (d,S)
 |_=>none
noncomputable def eK(d:D):E:=fun _ S=>some (d,S)
def e1(op:D->Option D)(f:E):E:=fun ev S=>(f ev S).bind fun p=>(op p.1).map fun d=>(d,p.2)
def e2(op:D->D->Option D)(f g:E):E:=fun ev S=>(f ev S).bind fun p=>(g ev p.2).bind fun q=>(op p.1 q.1).map fun d=>(d,q.2)
def e2s(op:Sto->D->D->Option D)(f g:E):E:=fun ev S=>(f ev S).bind fun p=>(g ev p.2).bind fun q=>(op q.2 p.1 q.1).map fun d=>(d,q.2)
def aN:As:=fun _ S=>some ([],S)
def aC(f:E)(g:As):As:=fun ev S=>(f ev S).bind fun p=>(g ev p.2).bind fun q=>some (p.1::q.1,q.2)
def eA(op:Sto->List D->Option D)(g:As):E:=fun ev S=>(g ev S).bind fun q=>(op q.2 q.1).map fun d=>(d,q.2)
def zn(g:G)(a:As):E:=fun ev S=>(a ev S).bind fun q=>g q.1 q.2
def yo(c:Str)(S:Sto):D->Option (Nat×List (Str×D))
 | .obj i=>match S[i]? with
   |some (.ins c' fs)=>if c'=c then some (i,fs)else none
   |_=>none
 |_=>none
def zw(c m:Str)(g:G)(f:E)(a:As):E:=fun ev S=>(f ev S).bind fun p=>(yo c p.2 p.1).bind fun r=>if r.2.lookup m=none then (a ev p.2).bind fun q=>g (p.1::q.1) q.2 else none
def zbe(c:Str)(g:G)(a:As):E:=fun ev S=>(a ev S).bind fun q=>(g (.obj q.2.length::q.1) (q.2++[.ins c []])).bind fun r=>match r.1 with
 | .non=>some (.obj q.2.length,r.2)
 |_=>none
def yj(c n:Str)(f:E):E:=fun ev S=>(f ev S).bind fun p=>(yo c p.2 p.1).bind fun r=>(r.2.lookup n).map fun d=>(d,p.2)
def zc7(g:As):E:=fun ev S=>(g ev S).bind fun q=>if q.1.length<=sizeLine then some (.obj q.2.length,q.2++[.lst q.1])else none
def xq(g:As):E:=eA (fun _ ds=>if ds.length<=sizeLine then some (.tup ds)else none) g
def zjr(g:As):E:=eA (fun _ ds=>if ds.length<=sizeLine then some (.lst ds)else none) g
def bE(f:E):B:=fun ev S=>(f ev S).bind fun p=>match p.1 with
 | .bl b=>some (b,p.2)
 |_=>none
def zmg(f:B):B:=fun ev S=>(f ev S).map fun p=>(!p.1,p.2)
def zca(f g:B):B:=fun ev S=>(f ev S).bind fun p=>if p.1=true then g ev p.2 else some (false,p.2)
def bOr(f g:B):B:=fun ev S=>(f ev S).bind fun p=>if p.1=true then some (true,p.2)else g ev p.2
def z0x(f:E):E:=e1 (fun d=>match d with | .bl b=>some (.bl !b) | _=>none) f
def jz:C:=fun ev S=>some (.nx ev,S)
def zt(a b:C):C:=fun ev S=>(a ev S).bind fun p=>match p.1 with
 | .nx e=>b e p.2
 |o=>some (o,p.2)
def qz(f:E):C:=fun ev S=>(f ev S).map fun p=>(.rt p.1,p.2)
def zxd:C:=fun _ S=>some (.rt .non,S)
def kq(f:E):C:=fun ev S=>(f ev S).map fun p=>(.nx ev,p.2)
def qv(i:Nat)(f:E):C:=fun ev S=>(f ev S).map fun p=>(.nx (ev.set i (some p.1)),p.2)
def z4x(i j:Nat)(f:As):C:=fun ev S=>(f ev S).bind fun p=>match p.1 with
 | [a,b]=>some (.nx ((ev.set i (some a)).set j (some b)),p.2)
 |_=>none
def zaz(ev:Ev):List Nat->List D->Option Ev
 | [],[]=>some ev
 |i::is,d::ds=>zaz (ev.set i (some d)) is ds
 |_,_=>none
def zmj(is:List Nat)(f:E):C:=fun ev S=>(f ev S).bind fun p=>match p.1 with
 | .tup ds=>(zaz ev is ds).map fun e=>(.nx e,p.2)
 |_=>none
def sIf(c:B)(a b:C):C:=fun ev S=>(c ev S).bind fun p=>if p.1=true then a ev p.2 else b ev p.2
def zbn:C:=fun _ _=>none
def zci(n:Str)(d:D):List (Str×D)->List (Str×D)
 | []=>[(n,d)]
 | (g,x)::r=>if g=n then (g,d)::r else (g,x)::zci n d r
def jm(c n:Str)(o v:E):C:=fun ev S=>(v ev S).bind fun p=>(o ev p.2).bind fun q=>(yo c q.2 q.1).bind fun r=>if r.2.length<1000 then some (.nx ev,q.2.set r.1 (.ins c (zci n p.1 r.2)))else none
def zng(o i v:E):C:=fun ev S=>(v ev S).bind fun p=>(o ev p.2).bind fun q=>(i ev q.2).bind fun r=>match q.1,r.1 with
 | .obj a,.int k=>(match r.2[a]? with
   |some (.lst ds)=>(ixN ds.length k).map fun j=>(.nx ev,r.2.set a (.lst (ds.set j p.1)))
   |_=>none)
 |_,_=>none
def kr(o v:E):C:=fun ev S=>(o ev S).bind fun q=>match q.1 with
 | .obj a=>(match q.2[a]? with
   | some (.lst _)=>(v ev q.2).bind fun p=>(match p.2[a]? with
     |some (.lst ds)=>if ds.length<sizeLine then some (.nx ev,p.2.set a (.lst (ds++[p.1])))else none
     |_=>none)
   |_=>none)
 |_=>none
def zcx(i:Nat)(body:C):List D->Ev->Sto->Option (Out×Sto)
 | [],ev,S=>some (.nx ev,S)
 | d::ds,ev,S=>(body (ev.set i (some d)) S).bind fun p=>match p.1 with
   | .nx e=>zcx i body ds e p.2
   | .ct e=>zcx i body ds e p.2
   | .bk e=>some (.nx e,p.2)
   | .rt x=>some (.rt x,p.2)
def zqb(i:Nat)(f:E)(body:C):C:=fun ev S=>(f ev S).bind fun p=>match p.1 with
 | .lst ds=>zcx i body ds ev p.2
 |_=>none
def j5(lo:Int)(n:Nat):List D:=(List.range n).map fun k:Nat=>D.int (lo+(k:Int))
def zqa(i:Nat)(f:E)(body:C):C:=fun ev S=>(f ev S).bind fun p=>match p.1 with
 | .int j=>if -(2^62)<=j/\j<2^62 then zcx i body (j5 0 j.toNat) ev p.2 else none
 |_=>none
def zu(N n:Nat)(c:C):G:=fun ds S=>if ds.length=n then (match c (ds.map some++List.replicate (N-ds.length) none) S with
 |some (.nx _,S1)=>some (.non,S1)
 |some (.rt d,S1)=>some (d,S1)
 |_=>none)else none
theorem z5{α β:Type}{o:Option α}{f:α->Option β}{b:β}(h:o.bind f=some b):∃a,o=some a/\f a=some b:=by
 cases o with
 |none=>cases h
 |some a=>exact⟨a,rfl,h⟩
theorem zcc{α β:Type}{o:Option α}{f:α->β}{b:β}(h:o.map f=some b):∃a,o=some a/\f a=b:=by
 cases o with
 |none=>cases h
 |some a=>exact⟨a,rfl,z5s h⟩
section
variable {X:Cx}
def zi8(K:zFr)(mg:zMg)(R:R2)(op:Sto->D->D->Option D):Prop :=
 ∀(ρ:List Addr) (H:Hp) (S:Sto) (x y:V) (dx dy d:D) (Q:VK),StOk K mg ρ H S->Rep K mg ρ H dx x->Rep K mg ρ H dy y->op S dx dy=some d ->
   (∀v H',Ext ρ H ρ H'->StOk K mg ρ H' S->Rep K mg ρ H' d v->Q v H')->R x y H Q
def zs6(K:zFr)(mg:zMg)(R:List V->Hp->VK->Prop)(op:Sto->List D->Option D):Prop :=
 ∀(ρ:List Addr) (H:Hp) (S:Sto) (xs:List V) (ds:List D) (d:D) (Q:VK),StOk K mg ρ H S->RepL K mg ρ H ds xs->op S ds=some d ->
   (∀v H',Ext ρ H ρ H'->StOk K mg ρ H' S->Rep K mg ρ H' d v->Q v H')->R xs H Q
section
variable {K:zFr}{mg:zMg}{R R':R2}{op op':Sto->D->D->Option D}
theorem t2(hs:zi8 K mg R op){f g:E}{σ:St}{H:Hp}{Q:VK}(h:tE K mg (e2s op f g) σ H Q):tOp R (tE K mg f) (tE K mg g) σ H Q:=by obtain⟨ρ,ev,S,d,S',hE,hS,hf,k⟩:=h;obtain⟨⟨x,S1⟩,q1,hf⟩:=z5 hf;obtain⟨⟨y,S2⟩,q2,hf⟩:=z5 hf;obtain⟨z,q3,hf⟩:=zcc hf;cases hf;refine⟨ρ,ev,S,x,S1,hE,hS,q1,fun v ρ1 H1 E1 hS1 r1=>⟨ρ1,ev,S1,y,S2,hE.mono E1,hS1,q2,fun u ρ2 H2 E2 hS2 r2=>?_⟩⟩;exact hs ρ2 H2 _ v u x y _ Q hS2 (r1.mono E2) r2 q3 fun w H' E3 hS3 r3=>k w ρ2 H' ((E1.trans E2).trans E3) hS3 r3
end
theorem zgd{o:Operator}{R:R2}{op:Sto->D->D->Option D}{a b:Expr}{f g:E}{pos:Pos}(ho:OpR X (binaryOp o) R)(hs:zi8 X.K X.mg R op)(ha:FE X a f)(hb:FE X b g):FE X (.BinOp a o b pos) (e2s op f g) :=
 j0 (z1q ho ha hb) fun _ _ _ h=>t2 hs h
theorem zk2{o:CmpOp}{R:R2}{op:Sto->D->D->Option D}{a b:Expr}{f g:E}{pos:Pos}(ho:OpR X (compareOp o) R)(hs:zi8 X.K X.mg R op)(ha:FE X a f)(hb:FE X b g)(hm:behindInMarks o b=false):FE X (.Compare a [o] [b] pos) (e2s op f g) :=
 j0 (zun ho ha hb hm) fun _ _ _ h=>t2 hs h
theorem zp4{K mg}{f:E}{t:TE}{σ:St}{H:Hp}{Q:Bool->Hp->Prop}(m:∀Q,tE K mg f σ H Q->t σ H Q)(h:tB K mg (bE f) σ H Q):zp5 t σ H Q:=by
 obtain⟨ρ,ev,S,b,S',hE,hS,hf,k⟩:=h;obtain⟨⟨x,S1⟩,q1,hf⟩:=z5 hf;cases x with
 | bl c=>
   cases hf;refine m _ ⟨ρ,ev,S,_,_,hE,hS,q1,fun v ρ1 H1 E1 hS1 r1=>?_⟩;exact⟨b,r1,k ρ1 H1 E1 hS1⟩
 |_=>cases hf
theorem zcd{o:CmpOp}{R:R2}{op:Sto->D->D->Option D}{a b:Expr}{f g:E}{pos:Pos}(ho:OpR X (compareOp o) R)(hs:zi8 X.K X.mg R op)(ha:FE X a f)(hb:FE X b g)(hm:behindInMarks o b=false):FB X (.Compare a [o] [b] pos) (bE (e2s op f g)) :=
 zdh (zud ho ha hb hm) fun _ _ _ h=>zp4 (fun _ h=>t2 hs h) h
theorem zd(i:Nat){x:Str}{pos:Pos}(hN:X.N[i]? = some x:=by rfl)(hv:Vis X.env.scope x:=by first | exact Or.inl rfl | exact Or.inr (Or.inl rfl) | exact Or.inr (Or.inr rfl))(hd:(x==("__debug__":Str))=false:=by decide)
   (hcd:(x==("__classdict__":Str))=false:=by decide):FE X (.Name x pos) (eV i) :=
 j0 (zh8 hN hv hd hcd) fun σ H Q h=>by
   obtain⟨ρ,ev,S,d,S',hE,hS,hf,k⟩:=h;unfold eV at hf;split at hf
   · rename_i x e;cases hf;obtain⟨v,e1,r⟩:=hE.at_ i _ e;exact⟨v,e1,k v ρ H (Ext.refl _ _) hS r⟩
   · cases hf
theorem zb6{e:Expr}{v:V}{d:D}(h:PE X e (L2.tC v))(r:∀ρ H,Rep X.K X.mg ρ H d v):FE X e (eK d) :=
 j0 h fun σ H Q h=>by obtain⟨ρ,ev,S,d,S',hE,hS,hf,k⟩:=h;cases hf;exact k v ρ H (Ext.refl _ _) hS (r _ _)
theorem zj{i:Int}{j pos}:FE X (.Constant (.int i) j pos) (eK (.int i)):=zb6 zx4 fun _ _=>rfl
theorem zii{b:Bool}{j pos}:FE X (.Constant (.bool b) j pos) (eK (.bl b)):=zb6 z1t fun _ _=>rfl
theorem jl{j pos}:FE X (.Constant .none j pos) (eK .non):=zb6 zx3 fun _ _=>rfl
theorem jn{x:Str}{j pos}:FE X (.Constant (.str x) j pos) (eK (.str x)):=zb6 zx1 fun _ _=>rfl
theorem zx{x:Str}{n:Int}{pos:Pos}(hm:∃t,X.mg x=some (.int n t))(hg:Gl X x:=by rfl)(hd:(x==("__debug__":Str))=false:=by decide):FE X (.Name x pos) (eK (.int n)):=by obtain⟨t,hm⟩:=hm;exact zb6 (znu hg hm (v:=.int n) ⟨t,rfl⟩ hd) fun _ _=>rfl
theorem zvh{x:Str}{pos:Pos}(hm:∃f,X.mg x=some (.ref f))(hg:Gl X x:=by rfl)(hd:(x==("__debug__":Str))=false:=by decide):FE X (.Name x pos) (eK (.fn x)):=by obtain⟨f,hm⟩:=hm;exact zb6 (znu hg hm (v:=.ref f) rfl hd) fun ρ H=>by unfold Rep;exact⟨f,rfl,hm⟩
theorem zc:FA X [] aN:=znv zsk fun σ H Q h=>by obtain⟨ρ,ev,S,d,S',hE,hS,hf,k⟩:=h;cases hf;exact k [] ρ H (Ext.refl _ _) hS RepL.nil
theorem za{e:Expr}{es:List Expr}{f:E}{g:As}(ha:FE X e f)(hr:FA X es g)(hs:starEach (e::es) X.env=(false,eval e X.env)::starEach es X.env:=by exact qm rfl):FA X (e::es) (aC f g) :=
 znv (znw ha hr hs) fun σ H Q h=>by obtain⟨ρ,ev,S,d,S',hE,hS,hf,k⟩:=h;obtain⟨⟨x,S1⟩,q1,hf⟩:=z5 hf;obtain⟨⟨y,S2⟩,q2,hf⟩:=z5 hf;cases hf;refine⟨ρ,ev,S,x,S1,hE,hS,q1,fun v ρ1 H1 E1 hS1 r1=>⟨ρ1,ev,S1,y,_,hE.mono E1,hS1,q2,fun vs ρ2 H2 E2 hS2 r2=>?_⟩⟩;exact k (v::vs) ρ2 H2 (E1.trans E2) hS2 (RepL.cons (r1.mono E2) r2)
theorem tA{K mg}{R:List V->Hp->VK->Prop}{op:Sto->List D->Option D}(hs:zs6 K mg R op){g:As}{σ:St}{H:Hp}{Q:VK}(h:tE K mg (eA op g) σ H Q):tAs K mg g σ H fun vs H1=>R vs H1 Q:=by obtain⟨ρ,ev,S,d,S',hE,hS,hf,k⟩:=h;obtain⟨⟨x,S1⟩,q1,hf⟩:=z5 hf;obtain⟨z,q3,hf⟩:=zcc hf;cases hf;exact⟨ρ,ev,S,x,_,hE,hS,q1,fun vs ρ1 H1 E1 hS1 r1=>hs ρ1 H1 _ vs x _ Q hS1 r1 q3 fun w H' E3 hS3 r3=>k w ρ1 H' (E1.trans E3) hS3 r3⟩
theorem qd{es:List Expr}{g:As}{x1 pos}(h:FA X es g):FE X (.Tuple es x1 pos) (xq g) :=
 j0 (zx0 h) fun σ H Q h=>tA (K:=X.K) (mg:=X.mg) (R:=fun xs H1 Q=>xs.length<=sizeLine/\∀p,H1 p=none->Q (.ref p) (upd H1 p (.tup xs))) (fun ρ H S xs ds d Q hS r e k=>by
   split at e
   · rename_i hl;cases e;exact⟨by rw[<-r.length];exact hl,fun p hp=>k _ _ (yw hS _ hp) (hS.new _ hp) (Rep.tup (s:=hS) hp r)⟩
   · cases e) h
theorem zgc{es:List Expr}{g:As}{pos}(h:FA X es g):FE X (.List es pos) (zjr g) :=
 j0 (zsj h) fun σ H Q h=>tA (K:=X.K) (mg:=X.mg) (R:=fun xs H1 Q=>xs.length<=sizeLine/\∀p,H1 p=none->Q (.ref p) (upd H1 p (.lst xs))) (fun ρ H S xs ds d Q hS r e k=>by
   split at e
   · rename_i hl;cases e;exact⟨by rw[<-r.length];exact hl,fun p hp=>k _ _ (yw hS _ hp) (hS.new _ hp) (Rep.lst (s:=hS) hp r)⟩
   · cases e) h
theorem zdm{es:List Expr}{g:As}{pos}(h:FA X es g):FE X (.List es pos) (zc7 g) :=
 j0 (zsj h) fun σ H Q h=>by
   obtain⟨ρ,ev,S,d,S',hE,hS,hf,k⟩:=h;obtain⟨⟨x,S1⟩,q1,hf⟩:=z5 hf;dsimp only at hf;split at hf
   · rename_i hl;cases hf;refine⟨ρ,ev,S,x,S1,hE,hS,q1,fun vs ρ1 H1 E1 hS1 r1=>⟨by rw[<-r1.length];exact hl,fun p hp=>?_⟩⟩;refine k _ _ _ (E1.trans (zco hS1 _ hp)) (hS1.add hp ⟨vs,jh,r1.mono (zco hS1 _ hp)⟩) ?_;unfold Rep;refine⟨p,rfl,?_⟩;rw[z5j (by rw[hS1.len]<;>exact z45 _),hS1.len];simp
   · cases hf
theorem zk3{id:String}{R:List V->Hp->VK->Prop}{op:Sto->List D->Option D}{x:Str}{p pos:Pos}{e:Expr}{es:List Expr}{g:As}(hc:CallR X (.builtin id) R)(hs:zs6 X.K X.mg R op)(hm:X.mg x=none)(hv:bootBuiltins x=some (.builtin id))(ha:FA X (e::es) g)
   (hg:Gl X x:=by rfl) (hn:x≠"__name__":=by decide) (hdb:(x==("__debug__":Str))=false:=by decide)
   (he:starEach (e::es) X.env=(false,eval e X.env)::starEach es X.env:=by exact qm rfl) (hpl:(backTo pos (starEach es X.env)).any (·.1)=false:=by exact jy rfl):FE X (.Call (.Name x p) (e::es) [] pos) (eA op g) :=
 j0 (zqu hc hg hm hv ha hn hdb he hpl) fun σ H Q h=>tA hs h
theorem z2o{T:String}{R:List V->Hp->VK->Prop}{op:Sto->List D->Option D}{x:Str}{p pos:Pos}{e:Expr}{es:List Expr}{g:As}(hc:CallR X (.type T) R)(hs:zs6 X.K X.mg R op)(hm:X.mg x=none)(hv:bootBuiltins x=some (.type T))(ha:FA X (e::es) g)
   (hg:Gl X x:=by rfl) (hn:x≠"__name__":=by decide) (hdb:(x==("__debug__":Str))=false:=by decide)
   (he:starEach (e::es) X.env=(false,eval e X.env)::starEach es X.env:=by exact qm rfl) (hpl:(backTo pos (starEach es X.env)).any (·.1)=false:=by exact jy rfl):FE X (.Call (.Name x p) (e::es) [] pos) (eA op g) :=
 j0 (zh9 hc hg hm hv ha hn hdb he hpl) fun σ H Q h=>tA hs h
end
structure Cal (P:Program) (w:World) (K:zFr) (mg:zMg) (base:Heap) (k:Nat) (x:Str) (g:G):Prop where
 ex:∃(f:Addr) (fd:FuncData) (ps:List Str) (ds:List Value) (dvs:List V) (dds:List D) (gg:G),FnOk P w K mg base CX0 k f fd ps (spG K mg gg)/\mg x=some (.ref f)/\PySem.W.keepIn K (.ref f)=true /\
   Binds K fd ps ds/\Vals dvs ds/\(∀ρ H,RepL K mg ρ H dds dvs)/\∀args S r,g args S=some r->gg (args++dds) S=some r
structure Mth (P:Program) (w:World) (K:zFr) (mg:zMg) (base:Heap) (k:Nat) (c m:Str) (g:G):Prop where
 ex:∃(C f:Addr) (fd:FuncData) (ps:List Str) (ds:List Value) (dvs:List V) (dds:List D) (gg:G),FnOk P w K mg base CX0 k f fd ps (spG K mg gg)/\mg c=some (.ref C)/\Cls K C/\Meth K C m f /\
   Binds K fd ps ds/\Vals dvs ds/\(∀ρ H,RepL K mg ρ H dds dvs)/\∀args S r,g args S=some r->gg (args++dds) S=some r
structure Mak (P:Program) (w:World) (K:zFr) (mg:zMg) (base:Heap) (k:Nat) (c:Str) (g:G):Prop where
 ex:∃(C f:Addr) (fd:FuncData) (ps:List Str) (ds:List Value) (dvs:List V) (dds:List D) (gg:G),FnOk P w K mg base CX0 k f fd ps (spG K mg gg)/\mg c=some (.ref C)/\Mk K C f /\
   Binds K fd ps ds/\Vals dvs ds/\(∀ρ H,RepL K mg ρ H dds dvs)/\∀args S r,g args S=some r->gg (args++dds) S=some r
def Fld(K:zFr)(mg:zMg)(c n:Str):Prop:=∀C,mg c=some (.ref C)->Cls K C/\NoAttr K C n
section
variable {X:Cx}{k:Nat}{x c m n:Str}{g:G}{e o:Expr}{es:List Expr}{a:As}{f:E}{p pos apos:Pos}
theorem zkg{K mg}{gg:G}{dds:List D}{dvs:List V}(hdd:∀ρ H,RepL K mg ρ H dds dvs)(hg:∀args S r,g args S=some r->gg (args++dds) S=some r){σ:St}{H:Hp}{Q:VK}(h:tE K mg (zn g a) σ H Q) :
   ztg (spG K mg gg) dvs E0 (tAs K mg a) σ H Q:=by
 obtain⟨ρ,ev,S,d,S',hE,hS,hf,k⟩:=h;obtain⟨⟨ds,S1⟩,q1,hf⟩:=z5 hf;exact⟨ρ,ev,S,ds,S1,hE,hS,q1,fun vs ρ1 H1 E1 hS1 r1=>⟨ρ1,ds++dds,S1,d,S',r1.append (hdd ρ1 H1),hS1,hg _ _ _ hf,fun v ρ' H' E' hS' r'=>k v ρ' H' (E1.trans E') hS' r'⟩⟩
theorem zh(cal:Cal X.prog X.w X.K X.mg X.base k x g)(hr:Room k X.A)(ha:FA X (e::es) a)(hg:Gl X x:=by rfl)(hdb:(x==("__debug__":Str))=false:=by decide)
   (he:starEach (e::es) X.env=(false,eval e X.env)::starEach es X.env:=by exact qm rfl) (hpl:(backTo pos (starEach es X.env)).any (·.1)=false:=by exact jy rfl) :
   FE X (.Call (.Name x p) (e::es) [] pos) (zn g a):=by
 obtain⟨f,fd,ps,ds,dvs,dds,gg,F,hm,hk,hb,hd,hdd,hgg⟩:=cal.ex;exact j0 (zuo F hr hg hm hk hb hd zlv ha hdb he hpl) fun σ H Q h=>zkg hdd hgg h
theorem zcy{c:Str}{S:Sto}{d:D}{r:Nat×List (Str×D)}(h:yo c S d=some r):d=.obj r.1/\S[r.1]? = some (.ins c r.2):=by
 unfold yo at h;split at h
 · split at h
   · rename_i i _ c' fs e;split at h
     · rename_i hc;cases h;subst hc;exact⟨rfl,e⟩
     · cases h
   · cases h
 · cases h
theorem zeq{K mg ρ H S}(hS:StOk K mg ρ H S){c:Str}{i:Nat}{fs:List (Str×D)}{v:V}(h:S[i]? = some (.ins c fs))(r:Rep K mg ρ H (.obj i) v) :
   ∃b C dx vs,v=.ref b/\ρ[i]? = some b/\mg c=some (.ref C)/\H b=some (.ins C dx vs)/\zwg K mg ρ H fs vs:=by
 unfold Rep at r;obtain⟨b,rfl,e⟩:=r;obtain⟨C,dx,vs,h1,h2,h3⟩:=hS.ob i _ b h e;exact⟨b,C,dx,vs,rfl,e,h1,h2,h3⟩
theorem zck{fs:List (Str×D)}{vs:List (Str×V)}{m:Str}(h:vs.map (·.1)=fs.map (·.1))(e:fs.lookup m=none):vs.lookup m=none:=by
 induction fs generalizing vs with
 | nil=>
   cases vs with
   |nil=>rfl
   |cons _ _=>cases h
 | cons q fs ih=>
   cases vs with
   |nil=>cases h
   | cons q' vs=>
     obtain⟨a,b⟩:=q;obtain⟨a',b'⟩:=q';simp only[z5v,z6v]at h;obtain⟨h1,h2⟩:=h;subst h1;simp only[List.lookup]at e ⊢;split at e
     · cases e
     · exact ih h2 e
theorem zjk{K mg ρ H}{fs:List (Str×D)}{vs:List (Str×V)}{m:Str}{d:D}(h:zwg K mg ρ H fs vs)(e:fs.lookup m=some d):∃v,vs.lookup m=some v/\Rep K mg ρ H d v:=by
 obtain⟨h,r⟩:=h
 induction fs generalizing vs with
 |nil=>cases e
 | cons q fs ih=>
   cases vs with
   |nil=>cases h
   | cons q' vs=>
     obtain⟨a,b⟩:=q;obtain⟨a',b'⟩:=q';simp only[z5v,z6v]at h;obtain⟨h1,h2⟩:=h;subst h1;rw[z5v,z5v]at r;unfold RepL at r;obtain⟨u,t,e1,r1,r2⟩:=r;cases e1;simp only[List.lookup]at e ⊢;split at e
     · cases e;exact⟨_,rfl,r1⟩
     · exact ih e h2 r2
theorem qk(mt:Mth X.prog X.w X.K X.mg X.base k c m g)(hr:Room k X.A)(ho:FE X o f)(ha:FA X (e::es) a){pl:Sem Bool}
   (hst:starEach (e::es) X.env=(false,eval e X.env)::starEach es X.env:=by exact qm rfl) (hpl:(backTo pos (starEach es X.env)).any (·.1)=false:=by exact jy rfl)
   (ht:eval (.Call (.Attribute o m apos) (e::es) [] pos) X.env=(do
     let ov <-eval o X.env
     standAt apos.atName
     let(f,first) <-holding [ov] (getMethod ov m pl)
     callWith pos f first (backTo pos (starEach (e::es) X.env)) (backToKw pos (keywordEach [] X.env))):=by rfl) :
   FE X (.Call (.Attribute o m apos) (e::es) [] pos) (zw c m g f a):=by
 obtain⟨C,fa,fd,ps,ds,dvs,dds,gg,F,hm,hc,hme,hb,hd,hdd,hgg⟩:=mt.ex;refine j0 (zul ho hc hme F hr hb hd zlv ha hst hpl ht) fun σ H Q h=>?_;obtain⟨ρ,ev,S,d,S',hE,hS,hf,k⟩:=h;obtain⟨⟨y,S1⟩,q1,hf⟩:=z5 hf;obtain⟨⟨i,fs⟩,q2,hf⟩:=z5 hf;dsimp only at hf q2;split at hf
 · rename_i hl;obtain⟨⟨ys,S2⟩,q3,hf⟩:=z5 hf;obtain⟨rfl,hi⟩:=zcy q2;refine⟨ρ,ev,S,_,S1,hE,hS,q1,fun v ρ1 H1 E1 hS1 r1=>?_⟩;obtain⟨b,C',dx,vs,rfl,hb1,hm',hb2,hb3⟩:=zeq hS1 hi r1;have ec:C'=C:=by rw[hm]at hm';cases hm';rfl
   subst ec;refine⟨b,dx,vs,rfl,hb2,zck hb3.1 hl,ρ1,ev,S1,ys,S2,hE.mono E1,hS1,q3,fun us ρ2 H2 E2 hS2 r2=>?_⟩;exact⟨ρ2,_,S2,d,S',(RepL.cons (r1.mono E2) r2).append (hdd ρ2 H2),hS2,hgg _ _ _ hf,fun v ρ' H' E' hS' r'=>k v ρ' H' ((E1.trans E2).trans E') hS' r'⟩
 · cases hf
theorem qf(mt:Mth X.prog X.w X.K X.mg X.base k c m g)(hr:Room k X.A)(ho:FE X o f){pl:Sem Bool}
   (ht:eval (.Call (.Attribute o m apos) [] [] pos) X.env=(do
     let ov <-eval o X.env
     standAt apos.atName
     let(f,first) <-holding [ov] (getMethod ov m pl)
     callWith pos f first (backTo pos (starEach [] X.env)) (backToKw pos (keywordEach [] X.env))):=by rfl) :
   FE X (.Call (.Attribute o m apos) [] [] pos) (zw c m g f aN):=by
 obtain⟨C,fa,fd,ps,ds,dvs,dds,gg,F,hm,hc,hme,hb,hd,hdd,hgg⟩:=mt.ex;refine j0 (zqs ho hc hme F hr hb hd zlv ht) fun σ H Q h=>?_;obtain⟨ρ,ev,S,d,S',hE,hS,hf,k⟩:=h;obtain⟨⟨y,S1⟩,q1,hf⟩:=z5 hf;obtain⟨⟨i,fs⟩,q2,hf⟩:=z5 hf;dsimp only at hf q2;split at hf
 · rename_i hl;obtain⟨⟨ys,S2⟩,q3,hf⟩:=z5 hf;cases q3;obtain⟨rfl,hi⟩:=zcy q2;refine⟨ρ,ev,S,_,S1,hE,hS,q1,fun v ρ1 H1 E1 hS1 r1=>?_⟩;obtain⟨b,C',dx,vs,rfl,hb1,hm',hb2,hb3⟩:=zeq hS1 hi r1;have ec:C'=C:=by rw[hm]at hm';cases hm';rfl
   subst ec;refine⟨b,dx,vs,rfl,hb2,zck hb3.1 hl,?_⟩;exact⟨ρ1,_,S1,d,S',(RepL.cons r1 RepL.nil).append (hdd ρ1 H1),hS1,hgg _ _ _ hf,fun v ρ' H' E' hS' r'=>k v ρ' H' (E1.trans E') hS' r'⟩
 · cases hf
theorem zkd{K mg}{gg:G}{C:Addr}{dds:List D}{dvs:List V}(hm:mg c=some (.ref C))(hdd:∀ρ H,RepL K mg ρ H dds dvs)(hg:∀args S r,g args S=some r->gg (args++dds) S=some r){σ:St}{H:Hp}{Q:VK}(h:tE K mg (zbe c g a) σ H Q) :
   ztd C (spG K mg gg) dvs E0 (tAs K mg a) σ H Q:=by
 obtain⟨ρ,ev,S,d,S',hE,hS,hf,k⟩:=h;obtain⟨⟨ds,S1⟩,q1,hf⟩:=z5 hf;obtain⟨⟨y,S2⟩,q2,hf⟩:=z5 hf;dsimp only at hf;cases y with
 | non=>
   cases hf;refine⟨ρ,ev,S,ds,S1,hE,hS,q1,fun vs ρ1 H1 E1 hS1 r1=>fun x dx nx ndx ne=>?_⟩;have s0:=hS1.new (.own x) ndx;have nx':upd H1 dx (.own x) x=none:=by rw[zz (z5x ne)];exact nx
   have e0:=yw hS1 (.own x) ndx;have e1:=zco s0 (p:=x) (.ins C dx []) nx';have s1:StOk K mg (ρ1++[x]) (upd (upd H1 dx (.own x)) x (.ins C dx [])) (S1++[.ins c []]):=s0.add nx' ⟨C,dx,[],hm,jh,rfl,RepL.nil⟩;have ro:Rep K mg (ρ1++[x]) (upd (upd H1 dx (.own x)) x (.ins C dx [])) (.obj S1.length) (.ref x):=by unfold Rep;refine⟨x,rfl,?_⟩;rw[z5j (by rw[hS1.len]<;>exact z45 _),hS1.len];simp
   refine⟨ρ1++[x],_,_,.non,_,RepL.cons ro ((r1.mono (e0.trans e1)).append (hdd _ _)),s1,hg _ _ _ q2,fun v ρ' H' E' hS' r'=>⟨r',?_⟩⟩;exact k _ ρ' H' (E1.trans ((e0.trans e1).trans E')) hS' (ro.mono E')
 |_=>cases hf
theorem zdn(mk:Mak X.prog X.w X.K X.mg X.base k c g)(hr:Room (k+1) X.A)(ha:FA X (e::es) a)(hg:Gl X c:=by rfl)(hdb:(c==("__debug__":Str))=false:=by decide)
   (he:starEach (e::es) X.env=(false,eval e X.env)::starEach es X.env:=by exact qm rfl) (hpl:(backTo pos (starEach es X.env)).any (·.1)=false:=by exact jy rfl) :
   FE X (.Call (.Name c p) (e::es) [] pos) (zbe c g a):=by
 obtain⟨C,f,fd,ps,ds,dvs,dds,gg,F,hm,M,hb,hd,hdd,hgg⟩:=mk.ex;exact j0 (zum M F hr hg hm hb hd zlv ha hdb he hpl) fun σ H Q h=>zkd hm hdd hgg h
theorem zrm(mk:Mak X.prog X.w X.K X.mg X.base k c g)(hr:Room (k+1) X.A)(hg:Gl X c:=by rfl)(hdb:(c==("__debug__":Str))=false:=by decide) :
   FE X (.Call (.Name c p) [] [] pos) (zbe c g aN):=by
 obtain⟨C,f,fd,ps,ds,dvs,dds,gg,F,hm,M,hb,hd,hdd,hgg⟩:=mk.ex;refine j0 (zqt M F hr hg hm hb hd zlv hdb) fun σ H Q h=>?_;have h':=zkd (C:=C) (gg:=gg) hm hdd hgg h;obtain⟨ρ,ev,S,d,S',hE,hS,hf,k⟩:=h';cases hf;exact k [] ρ H (Ext.refl _ _) hS RepL.nil
theorem q8(hc:Fld X.K X.mg c n)(ho:FE X o f)(hb:attributeBase o n X.env (eval o X.env)=eval o X.env:=by rfl):FE X (.Attribute o n pos) (yj c n f) :=
 j0 (zx5 ho hb) fun σ H Q h=>by obtain⟨ρ,ev,S,d,S',hE,hS,hf,k⟩:=h;obtain⟨⟨y,S1⟩,q1,hf⟩:=z5 hf;obtain⟨⟨i,fs⟩,q2,hf⟩:=z5 hf;obtain⟨d',q3,hf⟩:=zcc hf;cases hf;obtain⟨rfl,hi⟩:=zcy q2;refine⟨ρ,ev,S,_,_,hE,hS,q1,fun v ρ1 H1 E1 hS1 r1=>?_⟩;obtain⟨b,C,dx,vs,rfl,hb1,hm',hb2,hb3⟩:=zeq hS1 hi r1;obtain⟨v,e1,r2⟩:=zjk hb3 q3;exact⟨b,C,dx,vs,v,rfl,hb2,(hc C hm').1,(hc C hm').2,e1,k v ρ1 H1 E1 hS1 r2⟩
def zce(ft:Str->Option G)(f:E)(a:As):E:=fun ev S=>(f ev S).bind fun p=>match p.1 with
 | .fn x=>(ft x).bind fun g=>(a ev p.2).bind fun q=>g q.1 q.2
 |_=>none
theorem zeh{fe:Expr}{ft:Str->Option G}(hT:∀x g,ft x=some g->Cal X.prog X.w X.K X.mg X.base k x g)(hr:Room k X.A)(hf:FE X fe f)(ha:FA X (e::es) a)
   (ht:eval (.Call fe (e::es) [] pos) X.env=(eval fe X.env >>= fun v=>callWith pos v [] (backTo pos (starEach (e::es) X.env)) (backToKw pos (keywordEach [] X.env))):=by rfl)
   (he:starEach (e::es) X.env=(false,eval e X.env)::starEach es X.env:=by exact qm rfl) (hpl:(backTo pos (starEach es X.env)).any (·.1)=false:=by exact jy rfl) :
   FE X (.Call fe (e::es) [] pos) (zce ft f a):=by
 intro pins s σ H Q I h;rw[ht];obtain⟨ρ,ev,S,d,S',hE,hS,hf',kk⟩:=h;obtain⟨⟨y,S1⟩,q1,hf'⟩:=z5 hf';cases y with
 | fn x=>
   dsimp only at hf';obtain⟨g,hx,hf'⟩:=z5 hf';obtain⟨f0,fd,ps,ds,dvs,dds,gg,F,hm,hk,hb,hd,hdd,hgg⟩:=(hT x g hx).ex;refine z40 (thn (hf pins s σ H (fun v H1=>v=.ref f0/\ztg (spG X.K X.mg gg) dvs E0 (tAs X.K X.mg a) σ H1 Q) I ⟨ρ,ev,S,_,S1,hE,hS,q1,fun v ρ1 H1 E1 hS1 r1=>⟨?_,?_⟩⟩) fun u s1 ⟨v,H1,I1,rv,ev1,q⟩=>?_)
   · unfold Rep at r1;obtain⟨b,rfl,e1⟩:=r1;rw[hm]at e1;cases e1;rfl
   · exact zkg (g:=g) hdd hgg ⟨ρ1,ev,S1,d,S',hE.mono E1,hS1,hf',fun v ρ' H' E' hS' r'=>kk v ρ' H' (E1.trans E') hS' r'⟩
   · subst ev1;obtain rfl:u=Value.ref f0:=rv;refine z7l (h₀:=X.base) I.ok.mod.kin hk (thn (ha pos pins s1 σ H1 _ I1 q) fun us s2 ⟨vs,H2,I2,r,q2⟩=>⟨I2.kIn,?_⟩) he hpl;exact zkk F hr hb hd zlv I2 r q2
 |_=>cases hf'
theorem zc3(h:FE X e f)(he:∀whole,isTrue e X.env whole=(do let v <-whole;standAt e.pos;holding [v] (truthy v)):=by intro _;rfl):FB X e (bE f) :=
 zdh (zxr h he) fun σ H Q h=>by
   obtain⟨ρ,ev,S,b,S',hE,hS,hf,k⟩:=h;obtain⟨⟨x,S1⟩,q1,hf⟩:=z5 hf;cases x with
   | bl c=>
     cases hf;exact⟨ρ,ev,S,_,_,hE,hS,q1,fun v ρ1 H1 E1 hS1 r1=>⟨b,r1,k ρ1 H1 E1 hS1⟩⟩
   |_=>cases hf
variable {b:Expr}{rest:List Expr}{u v:B}
theorem zge(h:FB X e u):FB X (.UnaryOp .Not e pos) (zmg u):=zdh (zxs h) fun σ H Q h=>by obtain⟨ρ,ev,S,b,S',hE,hS,hf,k⟩:=h;obtain⟨⟨x,S1⟩,q1,hf⟩:=zcc hf;cases hf;exact⟨ρ,ev,S,_,_,hE,hS,q1,fun ρ1 H1 E1 hS1=>k ρ1 H1 E1 hS1⟩
theorem x8(h:FB X e u):FW X (.BoolOp .And [e] pos) u:=zub h
theorem zsq(h:FB X e u):FW X (.BoolOp .Or [e] pos) u:=zxn h
theorem ym(h:FB X e u)(hb:FW X (.BoolOp .And (b::rest) pos) v):FW X (.BoolOp .And (e::b::rest) pos) (zca u v):=znp (zxo h hb) fun σ H Q h=>by
 obtain⟨ρ,ev,S,b,S',hE,hS,hf,k⟩:=h;obtain⟨⟨x,S1⟩,q1,hf⟩:=z5 hf;refine⟨ρ,ev,S,x,S1,hE,hS,q1,fun ρ1 H1 E1 hS1=>?_⟩;cases x with
 |true=>exact z2b ⟨ρ1,ev,S1,b,S',hE.mono E1,hS1,hf,fun ρ2 H2 E2 hS2=>k ρ2 H2 (E1.trans E2) hS2⟩
 |false=>cases hf;exact z2c (k ρ1 H1 E1 hS1)
theorem zy8(h:FB X e u)(hb:FW X (.BoolOp .Or (b::rest) pos) v):FW X (.BoolOp .Or (e::b::rest) pos) (bOr u v):=znp (z1k h hb) fun σ H Q h=>by
 obtain⟨ρ,ev,S,b,S',hE,hS,hf,k⟩:=h;obtain⟨⟨x,S1⟩,q1,hf⟩:=z5 hf;refine⟨ρ,ev,S,x,S1,hE,hS,q1,fun ρ1 H1 E1 hS1=>?_⟩;cases x with
 |true=>cases hf;exact z2b (k ρ1 H1 E1 hS1)
 |false=>exact z2c ⟨ρ1,ev,S1,b,S',hE.mono E1,hS1,hf,fun ρ2 H2 E2 hS2=>k ρ2 H2 (E1.trans E2) hS2⟩
theorem zg9(h:FW X e u):FB X e u:=h.pt
variable {g1 g2:E}
theorem zzi(h:FE X e g1):FE X (.UnaryOp .Not e pos) (z0x g1):=j0 (zx2 h) fun σ H Q h=>by
 obtain⟨ρ,ev,S,d,S',hE,hS,hf,k⟩:=h;obtain⟨⟨x,S1⟩,q1,hf⟩:=z5 hf;obtain⟨z,q2,hf⟩:=zcc hf;cases hf;refine⟨ρ,ev,S,x,_,hE,hS,q1,fun w ρ1 H1 E1 hS1 r1=>?_⟩;cases x with
 |bl c=>cases q2;exact⟨c,r1,k _ ρ1 H1 E1 hS1 rfl⟩
 |_=>cases q2
end
section
variable {X:Cx}{st:Stmt}{rest:List Stmt}{a b body:C}{e o:Expr}{f g h':E}{u:B}{pos pos':Pos}{x c n:Str}
theorem zp:FSs X [] jz:=zkp zuf fun σ H D h=>by obtain⟨ρ,ev,S,o,S',hE,hS,hf,k⟩:=h;cases hf;exact k σ ρ H (Ext.refl _ _) hS hE
theorem zb(h1:FS X st a)(h2:FSs X rest b):FSs X (st::rest) (zt a b):=zkp (zqn h1 h2) fun σ H D h=>by
 obtain⟨ρ,ev,S,o,S',hE,hS,hf,k⟩:=h;obtain⟨⟨o1,S1⟩,q1,hf⟩:=z5 hf;refine⟨ρ,ev,S,o1,S1,hE,hS,q1,?_⟩;cases o1 with
 |nx e=>exact fun σ' ρ' H' E' hS' hE'=>⟨ρ',e,S1,o,S',hE',hS',hf,k.ext E'⟩
 |rt d=>cases hf;exact k
 |bk e=>cases hf;exact k
 |ct e=>cases hf;exact k
theorem zf(h1:FS X st a):FSs X [st] a:=zue h1
theorem zm(h:FE X e f):FS X (.Return (some e) pos) (qz f):=y8 (zxu h) fun σ H D h=>by obtain⟨ρ,ev,S,o,S',hE,hS,hf,k⟩:=h;obtain⟨⟨d,S1⟩,q1,hf⟩:=zcc hf;cases hf;exact⟨ρ,ev,S,d,_,hE,hS,q1,k⟩
theorem zu7:FS X (.Return none pos) zxd:=y8 zug fun σ H D h=>by obtain⟨ρ,ev,S,o,S',hE,hS,hf,k⟩:=h;cases hf;exact k .non ρ H (Ext.refl _ _) hS rfl
theorem zas:FS X st zbn:=y8 zqo fun σ H D h=>by obtain⟨ρ,ev,S,o,S',hE,hS,hf,k⟩:=h;cases hf
theorem jg(h:FE X e f)(hs:swapsWith e none pos.line X.env=pure false:=by rfl):FS X (.Expr e pos) (kq f):=y8 (znr h hs) fun σ H D h=>by obtain⟨ρ,ev,S,o,S',hE,hS,hf,k⟩:=h;obtain⟨⟨d,S1⟩,q1,hf⟩:=zcc hf;cases hf;exact⟨ρ,ev,S,d,_,hE,hS,q1,fun v ρ1 H1 E1 hS1 r1=>k σ ρ1 H1 E1 hS1 (hE.mono E1)⟩
theorem zo(i:Nat)(h:FE X e f)(hN:X.N.Nodup)(hi:X.N[i]? = some x:=by rfl)(hx:Loc X.env.scope x:=by first | exact Or.inl rfl | exact Or.inr rfl)(hs:swapsWith e (some (.Name x pos')) pos.line X.env=pure false:=by rfl)
   (hf:X.fn x=true\/X.env.scope.names.lookup x=some .local:=by first | exact .inl rfl | exact .inr rfl | assumption):FS X (.Assign [.Name x pos'] e pos) (qv i f) :=
 y8 (zxt hN hi hx h hs hf) fun σ H D h=>by obtain⟨ρ,ev,S,o,S',hE,hS,hf,k⟩:=h;obtain⟨⟨d,S1⟩,q1,hf⟩:=zcc hf;cases hf;exact⟨ρ,ev,S,d,_,hE,hS,q1,fun v ρ1 H1 E1 hS1 r1=>k _ ρ1 H1 E1 hS1 ((hE.mono E1).set r1 i)⟩
inductive Names (X:Cx):List Expr->List Nat->TGs->Prop where
 |nil:Names X [] [] z3s
 |cons {i:Nat}{x:Str}{px:Pos}{es:List Expr}{is:List Nat}{t:TGs} (hN:X.N.Nodup) (hi:X.N[i]? = some x) (hx:Loc X.env.scope x) (hf:X.fn x=true\/X.env.scope.names.lookup x=some .local) (h:Names X es is t) (p:PGs X (.Name x px::es) (zri (zif i) t)):Names X (.Name x px::es) (i::is) (zri (zif i) t)
theorem Names.pgs{es is t}(h:Names X es is t):PGs X es t:=by
 cases h with
 |nil=>exact zuk
 |cons _ _ _ _ _ p=>exact p
theorem zq2{K mg ρ H}{es is t}(h:Names X es is t):∀{ds:List D}{vs:List V}{ev ev':Ev}{σ:St}{Q:St->Hp->Prop},RepL K mg ρ H ds vs->EnvR K mg ρ H ev σ->zaz ev is ds=some ev'->(∀σ',EnvR K mg ρ H ev' σ'->Q σ' H)->t vs σ H Q:=by
 induction h with
 | nil=>
   intro ds vs ev ev' σ Q r hE e k;cases ds with
   | nil=>
     unfold RepL at r;unfold zaz at e;cases e;exact⟨r,k σ hE⟩
   |cons _ _=>unfold zaz at e;cases e
 | cons hN hi hx hf _ _ ih=>
   intro ds vs ev ev' σ Q r hE e k;cases ds with
   |nil=>unfold zaz at e;cases e
   | cons d ds=>
     unfold RepL at r;obtain⟨v,r',rfl,r1,r2⟩:=r;unfold zaz at e;exact⟨v,r',rfl,ih r2 (hE.set r1 _) e k⟩
theorem zf3:∀{is:List Nat}{ds:List D}{ev ev':Ev},zaz ev is ds=some ev'->ds.length=is.length
 | [],[],_,_,_=>rfl
 |i::is,d::ds,_,_,h=>by unfold zaz at h;rw[List.length_cons,List.length_cons,zf3 h]
 | [],_::_,_,_,h=>by unfold zaz at h;cases h
 |_::_,[],_,_,h=>by unfold zaz at h;cases h
theorem zig(is:List Nat){es:List Expr}{t:TGs}{k:Nat}{pt:Pos}(hn:Names X es is t)(h:FE X e f)(hc:X.calm=true:=by rfl)(hl:(assignEach es X.env).length=is.length:=by rfl)(hst:(assignEach es X.env).findIdx? (·.1)=none:=by rfl)
   (hs:swapsWithSole [.Tuple es k pt] e pos.line X.env=pure false:=by rfl) (hw:swappedStores [.Tuple es k pt] e X.env=pure none:=by rfl) (h1:(assignEach [.Tuple es k pt] X.env).map (·.2)=[assign (.Tuple es k pt) X.env]:=by rfl) :
   FS X (.Assign [.Tuple es k pt] e pos) (zmj is f):=y8 (zsi h (zxy hc hn.pgs hl hst) hs hw h1) fun σ H D h=>by
 obtain⟨ρ,ev,S,o,S',hE,hS,hf,k⟩:=h;obtain⟨⟨d,S1⟩,q1,hf⟩:=z5 hf;cases d with
 | tup ds=>
   obtain⟨ev',q2,hf⟩:=zcc hf;cases hf;refine⟨ρ,ev,S,_,_,hE,hS,q1,fun v ρ1 H1 E1 hS1 r1=>?_⟩;unfold Rep at r1;obtain⟨p,vs,rfl,t,r⟩:=r1;exact⟨p,vs,rfl,t.sq,by rw[<-r.length];exact zf3 q2,zq2 hn r (hE.mono E1) q2 fun σ' hE'=>k σ' ρ1 H1 E1 hS1 hE'⟩
 |_=>cases hf
theorem ql(hc:FB X e u){sa sb:List Stmt}(ha:FSs X sa a)(hb:FSs X sb b):FS X (.If e sa sb pos) (sIf u a b):=y8 (z1n hc ha hb) fun σ H D h=>by
 obtain⟨ρ,ev,S,o,S',hE,hS,hf,k⟩:=h;obtain⟨⟨x,S1⟩,q1,hf⟩:=z5 hf;refine⟨ρ,ev,S,x,S1,hE,hS,q1,fun ρ1 H1 E1 hS1=>?_⟩;cases x with
 |true=>exact z2b ⟨ρ1,ev,S1,o,S',hE.mono E1,hS1,hf,k.ext E1⟩
 |false=>exact z2c ⟨ρ1,ev,S1,o,S',hE.mono E1,hS1,hf,k.ext E1⟩
theorem zsg{K mg ρ H}{n:Str}{d:D}{v:V}(r:Rep K mg ρ H d v):∀{fs:List (Str×D)}{vs:List (Str×V)},zwg K mg ρ H fs vs->zwg K mg ρ H (zci n d fs) (zfp n v vs)
 | [],vs,h=>by
   obtain⟨h1,_⟩:=h;cases vs with
   |nil=>exact⟨rfl,RepL.cons r RepL.nil⟩
   |cons _ _=>cases h1
 | (a,b)::fs,vs,h=>by
   obtain⟨h1,h2⟩:=h;cases vs with
   |nil=>cases h1
   | cons q vs=>
     obtain⟨a',b'⟩:=q;simp only[z5v,z6v]at h1;obtain⟨h3,h4⟩:=h1;subst h3;rw[z5v,z5v]at h2;unfold RepL at h2;obtain⟨u,t,e1,r1,r2⟩:=h2;cases e1;rw[show zci n d ((a',b)::fs)=(if a'=n then (a',d)::fs else (a',b)::zci n d fs)from rfl,show zfp n v ((a',b')::vs)=(if a'=n then (a',v)::vs else (a',b')::zfp n v vs)from rfl];by_cases hn:a'=n
     · rw[z5o hn,z5o hn];exact⟨by simp[h4],RepL.cons r r2⟩
     · rw[z5l hn,z5l hn];obtain⟨i1,i2⟩:=zsg r (fs:=fs) (vs:=vs) ⟨h4,r2⟩;exact⟨by rw[z5v,z5v,i1],RepL.cons r1 i2⟩
theorem xb(hc:Fld X.K X.mg c n)(ho:FE X o f)(hv:FE X e g)(hs:swapsWith e (some (.Attribute o n pos')) pos.line X.env=pure false:=by rfl):FS X (.Assign [.Attribute o n pos'] e pos) (jm c n f g) :=
 y8 (zxv ho hv hs) fun σ H D h=>by
   obtain⟨ρ,ev,S,o,S',hE,hS,hf,k⟩:=h;obtain⟨⟨d,S1⟩,q1,hf⟩:=z5 hf;obtain⟨⟨y,S2⟩,q2,hf⟩:=z5 hf;obtain⟨⟨i,fs⟩,q3,hf⟩:=z5 hf;dsimp only at hf q3;split at hf
   · rename_i hl;cases hf;obtain⟨rfl,hi⟩:=zcy q3;refine⟨ρ,ev,S,d,S1,hE,hS,q1,fun v ρ1 H1 E1 hS1 r1=>⟨ρ1,ev,S1,_,S2,hE.mono E1,hS1,q2,fun w ρ2 H2 E2 hS2 r2=>?_⟩⟩;obtain⟨b,C,dx,vs,rfl,hb1,hm',hb2,hb3⟩:=zeq hS2 hi r2;have e0:=zhb hS2 (.ins C dx (zfp n v vs)) hb1;refine⟨b,C,dx,vs,rfl,hb2,(hc C hm').1,(hc C hm').2,by have:=z6w List.length hb3.1;simp at this;omega,?_⟩;have hf2:zwg X.K X.mg ρ2 (upd H2 b (.ins C dx (zfp n v vs))) (zci n d fs) (zfp n v vs):=zsg ((r1.mono E2).mono e0) ⟨hb3.1,hb3.2.mono e0⟩;exact k σ ρ2 _ ((E1.trans E2).trans e0) (hS2.set hb1 ⟨C,dx,_,hm',jh,hf2⟩) (((hE.mono E1).mono E2).mono e0)
   · cases hf
theorem zu8{i:Expr}(ho:FE X o f)(hi:FE X i g)(hv:FE X e h')
   (ha:∀v,assign (.Subscript o i pos') X.env v=(do
     let ov <-holding [v] (eval o X.env)
     let iv <-holding [v,ov] (eval i X.env)
     standAt pos'
     holding [v,ov,iv] (setItem ov iv v)
     release [v,ov,iv] []):=by intro _;rfl) (hs:swapsWithSole [.Subscript o i pos'] e pos.line X.env=pure false:=by rfl) (hw:swappedStores [.Subscript o i pos'] e X.env=pure none:=by rfl)
   (h1:(assignEach [.Subscript o i pos'] X.env).map (·.2)=[assign (.Subscript o i pos') X.env]:=by rfl):FS X (.Assign [.Subscript o i pos'] e pos) (zng f g h') :=
 y8 (zsi hv (zxz ho hi zp9 ha) hs hw h1) fun σ H D h=>by
   obtain⟨ρ,ev,S,o,S',hE,hS,hf,k⟩:=h;obtain⟨⟨d,S1⟩,q1,hf⟩:=z5 hf;obtain⟨⟨y,S2⟩,q2,hf⟩:=z5 hf;obtain⟨⟨z,S3⟩,q3,hf⟩:=z5 hf;cases y with
   | obj a=>
     cases z with
     | int kk=>
       dsimp only at hf;split at hf
       · rename_i ds hd;obtain⟨j,hj,hf⟩:=zcc hf;cases hf;refine⟨ρ,ev,S,d,S1,hE,hS,q1,fun v ρ1 H1 E1 hS1 r1=>⟨ρ1,ev,S1,_,S2,hE.mono E1,hS1,q2,fun w ρ2 H2 E2 hS2 r2=>⟨ρ2,ev,S2,_,S3,(hE.mono E1).mono E2,hS2,q3,fun t ρ3 H3 E3 hS3 r3=>?_⟩⟩⟩;have r2':=r2.mono E3;unfold Rep at r2';obtain⟨b,rfl,hb⟩:=r2';obtain⟨vs,h2,h3⟩:=hS3.ob a _ b hd hb;have e0:=zhb hS3 (.lst (vs.set j v)) hb;refine⟨b,vs,kk,j,rfl,r3,h2,by rw[<-h3.length];exact hj,?_⟩;refine k σ ρ3 _ (((E1.trans E2).trans E3).trans e0) (hS3.set hb ⟨_,jh,?_⟩) ((((hE.mono E1).mono E2).mono E3).mono e0);exact(RepL.set ((r1.mono E2).mono E3) j h3).mono e0
       · cases hf
     |_=>cases hf
   |_=>cases hf
section
variable {K:zFr}{mg:zMg}{ρ1:List Addr}{H1:Hp}{E:Ends}{S':Sto}{o:Out}{i:Nat}
def zpv(K:zFr)(mg:zMg)(ρ1:List Addr)(H1:Hp)(i:Nat)(body:C)(o:Out)(S':Sto)(ds:List D)(σ:St)(H:Hp):Prop :=
 ∃ρ ev S,Ext ρ1 H1 ρ H/\StOk K mg ρ H S/\EnvR K mg ρ H ev σ/\zcx i body ds ev S=some (o,S')
theorem zmr{d:D}{ds:List D}{x:V}{σ:St}{H:Hp}{ρ:List Addr}{ev:Ev}{S:Sto}(k:Post K mg E S' ρ1 H1 o)(e0:Ext ρ1 H1 ρ H)(hS:StOk K mg ρ H S)(hE:EnvR K mg ρ H ev σ)(r:Rep K mg ρ H d x)(hl:zcx i body (d::ds) ev S=some (o,S')) :
   tC K mg body { E with nx:=zpv K mg ρ1 H1 i body o S' ds,ct:=zpv K mg ρ1 H1 i body o S' ds,bk:=E.nx } (σ.set i (some x)) H:=by
 obtain⟨⟨o1,S3⟩,q,hl⟩:=z5 hl;refine⟨ρ,ev.set i (some d),S,o1,S3,hE.set r i,hS,q,?_⟩;cases o1 with
 |nx e=>exact fun σ' ρ' H' E' hS' hE'=>⟨ρ',e,S3,e0.trans E',hS',hE',hl⟩
 |ct e=>exact fun σ' ρ' H' E' hS' hE'=>⟨ρ',e,S3,e0.trans E',hS',hE',hl⟩
 |bk e=>cases hl;exact fun σ' ρ' H' E' hS' hE'=>k σ' ρ' H' (e0.trans E') hS' hE'
 |rt y=>cases hl;exact fun v ρ' H' E' hS' r'=>k v ρ' H' (e0.trans E') hS' r'
theorem zi7{σ:St}{H:Hp}(k:Post K mg E S' ρ1 H1 o)(h:zpv K mg ρ1 H1 i body o S' [] σ H):E.nx σ H:=by obtain⟨ρ,ev,S,e0,hS,hE,hl⟩:=h;cases hl;exact k σ ρ H e0 hS hE
end
theorem zva(i:Nat){l:Expr}{px:Pos}{sb:List Stmt}(hN:X.N.Nodup)(hl:FE X l f)(hb:FSs X sb body)(hp:PassesOwn (model X.prog X.w) X.A X.env X.xe)(hc:X.calm=true:=by rfl)(hi:X.N[i]? = some x:=by rfl)(hx:Loc X.env.scope x:=by first | exact Or.inl rfl | exact Or.inr rfl)
   (hf:X.fn x=true\/X.env.scope.names.lookup x=some .local:=by first | exact .inl rfl | exact .inr rfl | assumption) (hs:∀v,foldedSetIterable l X.env v=pure v:=by intro _;rfl) :
   FS X (.For (.Name x px) l sb [] pos) (zqb i f body) :=
 y8 (zsh hp hc (zjj hl) (zgz hN hi hx hf) hb hs) fun σ H D h=>by
   obtain⟨ρ,ev,S,o,S',hE,hS,hf,k⟩:=h;obtain⟨⟨d,S1⟩,q1,hf⟩:=z5 hf;cases d with
   | lst ds=>
     refine⟨ρ,ev,S,_,S1,hE,hS,q1,fun v ρ1 H1 E1 hS1 r1=>?_⟩;unfold Rep at r1;obtain⟨p,vs,rfl,t,r⟩:=r1;have k1:=k.ext E1;refine⟨p,rfl,⟨vs,t.sq⟩,zrk (K:=X.K) (a:=p) (xs:=vs) (fun j σ' H'=>zpv X.K X.mg ρ1 H1 i body o S' (ds.drop j) σ' H') ⟨ρ1,ev,S1,Ext.refl _ _,hS1,hE.mono E1,hf⟩ (fun j σ' H' _ ⟨ρ',ev',S2,e0,_⟩=>(t.mono e0).sq) ?_ ?_⟩
     · rintro j y σ' H' hj ⟨ρ',ev',S2,e0,hS2,hE2,hl2⟩;have hjl:j<ds.length:=by rw[r.length];exact(z4y.mp hj).1
       have ed:ds.drop j=ds[j]::ds.drop (j+1):=z6l hjl;obtain⟨y',ey,ry⟩:=(r.mono e0).get (z44 hjl);rw[hj]at ey;cases ey;rw[ed]at hl2;exact zmr k1 e0 hS2 hE2 ry hl2
     · intro σ' H' ha;rw[z7s (by rw[r.length];exact z45 _)]at ha;exact zi7 k1 ha
   |_=>cases hf
theorem zqh{K mg}{ρ1:List Addr}{H1:Hp}{E:Ends}{S' S1:Sto}{o:Out}{i n:Nat}{lo:Int}{σ:St}{ev:Ev}(k:Post K mg E S' ρ1 H1 o)(hS1:StOk K mg ρ1 H1 S1)(hE:EnvR K mg ρ1 H1 ev σ)(hf:zcx i body (j5 lo n) ev S1=some (o,S')) :
   ∃W:Nat->Nat->St->Hp->Prop,(∃m,W 0 m σ H1)/\∀j m σ H,W j m σ H ->
     ((Itr lo n).stop j H/\E.nx σ H)\/((Itr lo n).go j H/\∃N:St->Hp->Prop,(∀σ' H',N σ' H'->∃m',m'<m/\W (j+1) m' σ' H')/\∀x H',(Itr lo n).yld j H x H'->zif i x σ H' fun σ2 H2=>tC K mg body { E with nx:=N,ct:=N,bk:=E.nx } σ2 H2):=by
 refine zot (g:=zif i) (fun j σ' H'=>zpv K mg ρ1 H1 i body o S' ((j5 lo n).drop j) σ' H') ⟨ρ1,ev,S1,Ext.refl _ _,hS1,hE,hf⟩ ?_ ?_
 · rintro j σ' H' hj ⟨ρ',ev',S2,e0,hS2,hE2,hl2⟩;have hjl:j<(j5 lo n).length:=by unfold j5;simpa using hj
   have ed:(j5 lo n).drop j=(j5 lo n)[j]::(j5 lo n).drop (j+1):=z6l hjl;rw[ed]at hl2;refine zmr k e0 hS2 hE2 ?_ hl2;have:(j5 lo n)[j]=D.int (lo+(j:Int)):=by simp[j5]
   rw[this];exact rfl
 · intro σ' H' ha;rw[z7s (by unfold j5;simp)]at ha;exact zi7 k ha
theorem zu9(i:Nat){l:Expr}{px p2 p3:Pos}{sb:List Stmt}(hN:X.N.Nodup)(hm:X.mg "range"=none)(hl:FE X l f)(hb:FSs X sb body)(hp:PassesOwn (model X.prog X.w) X.A X.env X.xe)(hg:Gl X "range":=by rfl)(hc:X.calm=true:=by rfl)(hi:X.N[i]? = some x:=by rfl)(hx:Loc X.env.scope x:=by first | exact Or.inl rfl | exact Or.inr rfl)
   (hf:X.fn x=true\/X.env.scope.names.lookup x=some .local:=by first | exact .inl rfl | exact .inr rfl | assumption) (hst:starEach [l] X.env=[(false,eval l X.env)]:=by exact qm rfl) (hs:∀v,foldedSetIterable (.Call (.Name "range" p2) [l] [] p3) X.env v=pure v:=by intro _;rfl) :
   FS X (.For (.Name x px) (.Call (.Name "range" p2) [l] [] p3) sb [] pos) (zqa i f body) :=
 y8 (zsh hp hc (zh7 hg hm (za hl zc hst) hst) (zgz hN hi hx hf) hb hs) fun σ H D h=>by
   obtain⟨ρ,ev,S,o,S',hE,hS,hf,k⟩:=h;obtain⟨⟨d,S1⟩,q1,hf⟩:=z5 hf;cases d with
   | int j=>
     dsimp only at hf;split at hf
     · rename_i hj;refine⟨ρ,ev,S,[.int j],S1,hE,hS,by simp only[aC,aN,q1,Option.bind_some],fun vs ρ1 H1 E1 hS1 r1=>?_⟩;unfold RepL at r1;obtain⟨v,r,rfl,r2,r3⟩:=r1;unfold RepL at r3;subst r3;exact⟨j,by rw[show v=.int j from r2],hj.1,hj.2,zqh (k.ext E1) hS1 (hE.mono E1) hf⟩
     · cases hf
   |_=>cases hf
end
open PySem.Spec PyProof.Rows
structure FunD (K:zFr) (x qual:Str) (st:Stmt) (f:Addr) (fd:FuncData) (dV:Value):Prop where
 ex:∃(oc:Value) (od:Option Addr) (kV doc pm:Value) (an:Option Addr) (cdv ct:Value) (osl:Array (Option Value)),
   fd=PySem.W.fnOf x qual (zbv st) (xo st) (zg st) dV kV doc pm an cdv ct/\K.lookup f=some ⟨oc,od,.func fd,osl⟩/\PySem.W.codeIn K cdv qual=true
 kp:PySem.W.keepIn K (.ref f)=true
theorem zpk{N n c ds S r}(h:zu N n c ds S=some r):ds.length=n:=by
 unfold zu at h;split at h
 · rename_i hl;exact hl
 · cases h
theorem zvy{K mg}{c:C}{N:List Str}{n:Nat}{vs:List V}{H:Hp}{Q:VK}{E:XK}(h:spG K mg (zu N.length n c) vs H Q E):tC K mg c { nx:=fun _ H'=>Q .non H',rt:=Q } (start N vs) H:=by
 obtain⟨ρ,ds,S,d,S',r,hS,hf,k⟩:=h;unfold zu at hf;split at hf
 · split at hf
   · rename_i e S1 hc;cases hf;exact⟨ρ,_,S,_,_,EnvR.start r,hS,hc,fun σ' ρ' H' E' hS' _=>k .non ρ' H' E' hS' rfl⟩
   · rename_i e S1 hc;cases hf;exact⟨ρ,_,S,_,_,EnvR.start r,hS,hc,k⟩
   · cases hf
 · cases hf
theorem FunD.ok{P:Program}{w:World}{K:zFr}{mg:zMg}{base:Heap}{x qual:Str}{st:Stmt}{f:Addr}{fd:FuncData}{dV:Value}{N ps:List Str}{k:Nat}{c:C}(F:FunD K x qual st f fd dV)(S:FnScope N ps (zg st))
   (hbody:∀(cdv:Value) (A:Around) (outer:List Env) (s:Shared) (H:Hp) (E:XK),Room k (A.deeper (envOfC qual (zg st) s.heap.objs.size f cdv)) ->
     FSs (zfr CX0 P w K mg base N qual (zg st) f cdv A outer s H E).nox (xo st) c):FnOk P w K mg base CX0 (k+1) f fd ps (spG K mg (zu N.length ps.length c)):=by
 obtain⟨oc,od,kV,doc,pm,an,cdv,ct,osl,rfl,lk,hcd⟩:=F.ex;refine zvc lk hcd S (fun vs H Q E h=>?_) fun A outer s H vs Q E hr hsp=>?_
 · obtain⟨ρ,ds,S,d,S',r,hS,hf,k⟩:=h;rw[<-r.length];exact zpk hf
 · exact⟨_,(hbody cdv A outer s H E hr).nox,zvy hsp⟩
def zin(cells:zLA):List (Str×NameKind)->zLA->zLA
 | [],acc=>acc
 | (n,k)::r,acc=>zin cells r (if k=.free then (match cells.lookup n with | some c=>(n,c)::acc | none=>acc)else acc)
theorem zej{cells:zLA}:∀{names:List (Str×NameKind)}{acc:zLA},(∀x c,acc.lookup x=some c->cells.lookup x=some c)->∀x c,(zin cells names acc).lookup x=some c->cells.lookup x=some c
 | [],_,h=>h
 | (n,k)::r,acc,h=>by
   unfold zin;refine zej (names:=r) ?_;intro x c;split
   · split
     · rename_i c' e;intro q;simp only[List.lookup]at q;split at q
       · rename_i hx;cases q;rw[z6n.mp hx];exact e
       · exact h x c q
     · exact h x c
   · exact h x c
theorem zk9{cells:zLA}{x:Str}:∀{names:List (Str×NameKind)}{acc:zLA},(∃c,acc.lookup x=some c)->∃c,(zin cells names acc).lookup x=some c
 | [],_,h=>h
 | (n,k)::r,acc,h=>by
   unfold zin;refine zk9 (names:=r) ?_;split
   · split
     · rename_i c' e;simp only[List.lookup];split
       · exact⟨_,rfl⟩
       · exact h
     · exact h
   · exact h
theorem zhj{cells:zLA}{x:Str}(hx:∃c,cells.lookup x=some c):∀{names:List (Str×NameKind)}{acc:zLA},(x,NameKind.free)∈names->∃c,(zin cells names acc).lookup x=some c
 | [],_,h=>by cases h
 | (n,k)::r,acc,h=>by
   unfold zin;rcases z5z.mp h with e | h
   · cases e;refine zk9 ?_;obtain⟨c,hc⟩:=hx;rw[z5o rfl,hc];exact⟨c,by simp[List.lookup]⟩
   · exact zhj hx h
theorem zhi{scope:Scope}{env:Env}(h:∀p∈scope.names,p.2=NameKind.free->∃c,env.cells.lookup p.1=some c):closureFor scope env=pure (zin env.cells scope.names []):=by
 unfold closureFor;generalize scope.names=names at h;have key:∀(names:List (Str×NameKind)) (acc:zLA),(∀p∈names,p.2=NameKind.free->∃c,env.cells.lookup p.1=some c) ->
     (forIn names acc fun(x:Str×NameKind) (cs:zLA)=>(do
       if(x.2==NameKind.free)=true then do
         let a <-cellOf env x.1
         pure (ForInStep.yield ((x.1,a)::cs))
       else pure (ForInStep.yield cs):Sem (ForInStep (zLA))))=pure (zin env.cells names acc):=by
   intro names
   induction names with
   |nil=>intro acc _;rfl
   | cons p r ih=>
     intro acc h;obtain⟨n,k⟩:=p;rw[List.forIn_cons];unfold zin;by_cases hk:k=.free
     · subst hk;obtain⟨c,hc⟩:=h (n,.free) z5w rfl;have hc':env.cells.lookup n=some c:=hc;simp only[beq_self_eq_true,z64,cellOf,hc',pure_bind];exact ih _ fun q hq=>h q (z5d _ hq)
     · have hb:(k==NameKind.free)=false:=by simpa using hk
       simp only[hb,z59,z69,pure_bind,z5l hk];exact ih _ fun q hq=>h q (z5d _ hq)
 have:=key names [] h
 first
   | (simp only[bind_pure];exact this)
   | (rw[show(fun(x:Str×NameKind) (cs:zLA)=>_)=_ from rfl];exact this)
   |exact this
def zk4(ev:Ev)(i:Nat):Option D:=match ev[i]? with
 |some o=>o
 |none=>none
def zhx(σ:L2.St)(i:Nat):Option V:=match σ[i]? with
 |some o=>o
 |none=>none
def zil(g:E)(fr:Ev):List D->Sto->Option (List D×Sto)
 | [],S=>some ([],S)
 |d::ds,S=>(g (some d::fr) S).bind fun p=>(zil g fr ds p.2).bind fun q=>some (p.1::q.1,q.2)
def yn(X:Cx)(N':List Str)(scope:Scope)(s₀:Shared)(H₀:Hp)(C:Addr)(ex:List Addr):Cx :=
 { X with N:=N',s₀:=s₀,H₀:=H₀,env:=compEnvC scope (zin X.env.cells scope.names []) C X.env,outer:=X.stack,ex:=ex,fn:=fun _=>false,pn:=[],xe:=fun _ _=>False }
section
variable {X:Cx}{pins:zAO}{σ:L2.St}{H:Hp}{s:Shared}{scope:Scope}{x:Str}{N':List Str}{fr:List Nat}
structure CompOk (X:Cx) (scope:Scope) (x:Str) (N':List Str) (fr:List Nat):Prop where
 nd:(x::N').Nodup
 hx:scope.names.lookup x=some .local
 kind:scope.kind=.function
 frn:fr.map (fun j=>X.N[j]?)=N'.map some
 frk:∀y∈N',X.env.kindOf y=some .cell/\(relabel scope X.env).names.lookup y=some .cell
 chk:∀p∈scope.names,p.2≠.cell/\(p.2=.free->X.env.kindOf p.1=some .cell)/\(p.2=.local->scope.names.lookup p.1=some .local)
theorem zfh(nd:(x::N').Nodup)(hx:scope.names.lookup x=some .local)(kind:scope.kind=.function)(frn:fr.map (fun j=>X.N[j]?)=N'.map some)
   (frk:(N'.all fun y=>X.env.kindOf y==some NameKind.cell&&(relabel scope X.env).names.lookup y==some NameKind.cell)=true)
   (chk:(scope.names.all fun p=>p.2 != NameKind.cell&&(p.2 != NameKind.free||X.env.kindOf p.1==some NameKind.cell)&&(p.2 != NameKind.local||scope.names.lookup p.1==some NameKind.local))=true):CompOk X scope x N' fr:=by
 refine⟨nd,hx,kind,frn,fun y hy=>?_,fun p hp=>?_⟩
 · have:=z51.mp frk y hy;simpa using this
 · have:=z51.mp chk p hp;simp only[z5k,z8z,bne_iff_ne,z6n]at this;exact⟨this.1.1,fun e=>this.1.2.resolve_left (fun z=>z e),fun e=>this.2.resolve_left (fun z=>z e)⟩
theorem zf7{α:Type}{x:Str}{k:α}:∀{l:List (Str×α)},l.lookup x=some k->(x,k)∈l
 | [],h=>by cases h
 | (n,a)::r,h=>by
   simp only[List.lookup]at h;split at h
   · rename_i e;cases h;rw[z6n.mp e];exact z5w
   · exact z5d _ (zf7 h)
theorem CompOk.free(c:CompOk X scope x N' fr){y:Str}(h:(relabel scope X.env).names.lookup y=some .cell\/(relabel scope X.env).names.lookup y=some .free):(y,NameKind.free)∈scope.names:=by
 have go:∀k,(k=NameKind.cell\/k=.free)->(relabel scope X.env).names.lookup y=some k->(y,NameKind.free)∈scope.names:=by
   intro k hk e;have m:=zf7 e;unfold relabel at m;obtain⟨⟨n,k0⟩,hm,e2⟩:=z80.mp m;dsimp only at e2;split at e2
   · rename_i hc;cases e2;have:k0=.free:=by rw[z5k,z5k]at hc;simpa using hc.1.1
     subst this;exact hm
   · cases e2;rcases hk with rfl | rfl
     · exact absurd rfl (c.chk _ hm).1
     · exact hm
 rcases h with h | h
 · exact go _ (.inl rfl) h
 · exact go _ (.inr rfl) h
theorem CompOk.start(c:CompOk X scope x N' fr)(I:Inv X pins σ H s){fp:List Addr}(hf:∀b∈fp,zpu X pins H b)(hfl:∀b∈fp,b<s.heap.objs.size){C:Addr}(hC:s.heap.objs.size<=C){h1:Heap}{m:zMg}{t':Nat}(hk:∀b o,s.heap.get? b=some o->h1.get? b=some o)(hn:h1.Ns C m) :
   Inv (yn X (x::N') scope s H C fp) [] (none::fr.map (zhx σ)) H { s with heap:=h1,toks:=t' }:=by
 have sub:∀y a,(zin X.env.cells scope.names []).lookup y=some a->X.env.cells.lookup y=some a:=zej (fun _ _ h=>by cases h);have hfs:∀b∈frs X.stack,H b=none:=I.stkFree;have cellt:∀y a,X.env.cells.lookup y=some a->a<s.heap.objs.size:=fun y a e=>by obtain⟨v,q⟩:=I.cell y a e;exact q.lt
 refine⟨⟨I.ok.mod,c.kind,I.ok.glob,I.ok.blt,hC,fun y z a h1 h2=>I.ok.inj y z a (sub _ _ h1) (sub _ _ h2),fun y hy=>?_,fun y a h=>?_,I.ok.hd,I.ok.frames,.inl rfl,fun b hb=>⟨z5n (z48 (hfl b hb) hC),fun y a e=>(hf b hb).2.2.2.2.1 y a (sub _ _ e)⟩,I.bs,z5p I.ok.bsz I.sz,fun b o e hb=>?_,fun b hb z=>?_,I.stack,hfs⟩,
   rfl,I.bare,Un.kept hk,⟨m,hn,fun i y v e1 e2 e3=>?_⟩,fun y a e=>?_,I.hok.fresh hC,fun y a e=>I.freeC y a (sub _ _ e),fun p hp=>absurd hp (by simp[yn]),I.hok.kept hk,?_⟩
 · exact zhj (I.ok.has y (.inl ((c.chk _ (c.free hy)).2.1 rfl))) (c.free hy)
 · cases h
 · have:=(I.bs b o e).1;have z:=hf b hb;rcases z.2.2.2.1 with z | z
   · exact I.ok.noex b o e z
   · have:=(I.ok.bs b o e).1;exact absurd (z48 (z5c this) z) (z6k _)
 · rcases z5z.mp (I.stkSub b z)with e | e
   · exact(hf b hb).2.1 e
   · exact(hf b hb).2.2.1 e
 · cases i with
   |zero=>simp at e2
   | succ i=>
     have e1:N'[i]? = some y:=by simpa [yn] using e1
     have e2:(fr.map (zhx σ))[i]? = some (some v):=by simpa using e2
     rw[z50]at e2;cases ej:fr[i]? with
     |none=>rw[ej]at e2;cases e2
     | some j=>
       rw[ej]at e2;have e2:zhx σ j=some v:=by simpa using e2
       have hv:σ[j]? = some (some v):=by
         unfold zhx at e2;split at e2
         · rename_i o ho;rw[ho,e2]
         · cases e2
       have hN:X.N[j]? = some y:=by have q:=z6w (fun l=>l[i]?) c.frn;simp only[z50,ej,e1,Option.map_some,z7w]at q;exact q
       obtain⟨k1,k2⟩:=c.frk y (z60 e1);obtain⟨mm,_,hl⟩:=I.loc;obtain⟨u,r,l⟩:=hl j y v hN hv (.inr (.inl k1));refine⟨u,r,?_⟩;rcases l with⟨k,_⟩ | ⟨_,a,ha,hcl⟩
       · rw[k1]at k;cases k
       · refine .inr ⟨.inl k2,a,?_,?_⟩
         · obtain⟨a',ha'⟩:=zhj (cells:=X.env.cells) (names:=scope.names) (acc:=[]) ⟨a,ha⟩ (c.free (.inl k2));have:=sub _ _ ha';rw[ha]at this;cases this;exact ha'
         · obtain⟨o,ho,hd⟩:=hcl;exact⟨o,hk _ _ ho,hd⟩
 · obtain⟨v,o,ho,hd⟩:=I.cell y a (sub _ _ e);exact⟨v,o,hk _ _ ho,hd⟩
 · have:=z6w List.length c.frn;simp at this;simp[yn,this]
theorem Inv.track{p:Addr}{ys:List V}{its:List Value}{n:Nat}(I:Inv X pins σ H s)(hn:H p=none)(ho:s.heap.get? p=some { cls:=.type "list",data:=.seq its.toArray n })(r:Vals ys its)(hz:ys.length<=sizeLine)
   (h1:p∈X.ex\/X.s₀.heap.objs.size<=p) (hL:p≠X.env.locals) (h2:∀x c,X.env.cells.lookup x=some c->c≠p) (h3:∀q∈X.pn++pins,q.1≠p):Inv X pins σ (upd H p (.lst ys)) s:=by
 refine I.step (g':=s.gens) (d':=s.drawn) (h':=s.heap) (t':=s.toks) (ch:=[p]) (fun b hb=>?_) (fun b o _ _ _ e _=>e) (fun b o _ _ _ e _=>⟨o.slots,e⟩) (fun b o hc e n=>?_) (fun b o _ e=>⟨o,e⟩) (fun b xs e=>?_) (fun b o u e=>?_) (fun b ps e=>⟨#[],?_⟩) (fun _ hm=>hm) (fun b u e=>?_) I.bare
 · rw[z5i.mp hb];exact⟨h1,hL,h2,h3⟩
 · rw[zz (fun z=>hc (by simp[z]))];exact n
 · rw[zz (qh e hn)];exact e
 · rw[zz (qh e hn)];exact e
 · rw[zz (qh e hn),e];simp
 · by_cases hb:b=p
   · subst hb;rw[jh]at e;cases e;exact⟨hz,its,n,r,ho⟩
   · rw[zz hb]at e;exact(I.hok b u e).stay (fun _ _ _ q=>q) (fun c q=>by rw[zz (qh q hn)];exact q) fun c xs q=>by rw[zz (qh q hn)];exact q
theorem zt6{P:Program}{w:World}{H:Hp}{h h':Heap}{c:Addr}(hok:HOk P w H h)(hs:Heap.SameBut c h h')(hn:H c=none):HOk P w H h':=fun b ob e=>by
 refine(hok b ob e).stay (fun d o hd q=>(hs.2 d ?_).trans q) (fun _ q=>q) fun _ _ q=>q;rintro rfl;rcases hd with rfl | hd
 · rw[hn]at e;cases e
 · rw[hn]at hd;cases hd
end
def IB(i:Int):Prop:=i.natAbs<2^4096
instance (i:Int):Decidable (IB i):=inferInstanceAs (Decidable (_<_))
def qb:D->D->Option D
 | .int i,.int j=>some (.int (i+j))
 | .str x,.str y=>if x.length+y.length<=sizeLine then some (.str (x++y))else none
 | .lst a,.lst b=>if a.length+b.length<=sizeLine then some (.lst (a++b))else none
 | .tup a,.tup b=>if a.length+b.length<=sizeLine then some (.tup (a++b))else none
 |_,_=>none
def opI(g:Int->Int->Option Int):D->D->Option D
 | .int i,.int j=>(g i j).map D.int
 |_,_=>none
def opIB(g:Int->Int->Bool):D->D->Option D
 | .int i,.int j=>some (.bl (g i j))
 |_,_=>none
def z0q(i j:Int):Option Int:=if(-(2^64)<i/\i<2^64)\/(-(2^64)<j/\j<2^64)\/(IB i/\IB j)then some (i*j)else none
def z2w(i j:Int):Option Int:=if 0<j/\j<1073741824 then some (i/j)else none
def z13(i j:Int):Option Int:=if 0<j then some (i%j)else none
def z0o(i j:Int):Option Int:=if 0<=j/\j<=1000000/\i.natAbs<2^64 then some (i^j.toNat)else none
def zad:D->D->Option D:=opI fun i j=>some (i-j)
def za4:D->D->Option D:=opI z0q
def zbk:D->D->Option D:=opI z2w
def jr:D->D->Option D:=opI z13
def zqy:D->D->Option D:=opI z0o
def zai:D->D->Option D:=opIB fun i j=>decide (i<j)
def zfv:D->D->Option D:=opIB fun i j=>decide (i<=j)
def zfq:D->D->Option D:=opIB fun i j=>decide (j<i)
def zi9:D->D->Option D:=opIB fun i j=>decide (j<=i)
def zom:D->Bool
 | .non=>true
 |_=>false
def zev:D->D->Option D
 |d,.non=>some (.bl (zom d))
 | .bl a,.bl b=>some (.bl (a==b))
 |_,_=>none
def yc:D->D->Option D
 |d,.non=>some (.bl (!zom d))
 | .bl a,.bl b=>some (.bl (a != b))
 |_,_=>none
def z8(S:Sto):D->D->Option D
 | .lst ds,.int i=>atI ds i
 | .tup ds,.int i=>atI ds i
 | .str z,.int i=>if z.length<=sizeLine then (atI z.cps.toList i).map fun c=>.str ⟨#[c]⟩else none
 | .obj a,.int i=>(match S[a]? with
   |some (.lst ds)=>atI ds i
   |_=>none)
 |_,_=>none
section
variable {X:Cx}{K:zFr}{mg:zMg}
theorem Rep.refI{ρ H i v}(h:Rep K mg ρ H (.int i) v):v=.int i:=h
theorem Rep.refS{ρ H i v}(h:Rep K mg ρ H (.str i) v):v=.str i:=h
theorem Rep.refT{ρ H ds v}(h:Rep K mg ρ H (.tup ds) v):∃p vs,v=.ref p/\TupAt K ρ H p vs/\RepL K mg ρ H ds vs:=by unfold Rep at h;exact h
theorem Rep.refL{ρ H ds v}(h:Rep K mg ρ H (.lst ds) v):∃p vs,v=.ref p/\LstAt K ρ H p vs/\RepL K mg ρ H ds vs:=by unfold Rep at h;exact h
def zxm(K:zFr):R2:=fun x y H Q=>∃l b xs zs,x=.ref l/\y=.ref b/\SqL K H l xs/\SqL K H b zs/\xs.length+zs.length<=sizeLine/\∀p,H p=none->Q (.ref p) (upd H p (.lst (xs++zs)))
theorem op_catL:OpR X (binaryOp .Add) (zxm X.K):=by
 intro pins s σ H x y v u Q I rx ry h;obtain⟨l,b,xs,zs,rfl,rfl,hH,hB,hz,q⟩:=h;cases rx;cases ry;obtain⟨its,r,pl,_⟩:=I.list hH;obtain⟨its2,r2,pl2,_⟩:=I.list hB;obtain⟨⟨cls,dd,data,sl⟩,ho,hc,n,hd⟩:=pl.isList;obtain⟨⟨cls2,dd2,data2,sl2⟩,ho2,hc2,n2,hd2⟩:=pl2.isList;simp only at hc hd hc2 hd2;subst hc hd hc2 hd2;have e:its.toArray++its2.toArray=(its++its2).toArray:=by simp
 have h1:=r.length;have h2:=r2.length;refine z8x ⟨_,ho,rfl⟩ ⟨_,ho2,rfl⟩ noFill_list_add seq_list_add PySem.F.slot_list_add PySem.F.entry_list_add (PySem.F.args_list_add_2 _ _) (list_addW l b its.toArray its2.toArray n n2 dd dd2 sl sl2 (by simp only[z46];omega)) ⟨ho,ho2,?_⟩;rw[e];exact⟨.ref _,_,I.lnew (t':=s.toks) (r.append r2) (by rw[z41];omega),rfl,q _ I.fresh⟩
def zsf(K:zFr):R2:=fun x y H Q=>∃a b ys,x=.ref a/\y=.ref b/\SqT K H a []/\SqT K H b ys/\Q (.ref b) H
theorem zqx:OpR X (binaryOp .Add) (zsf X.K):=by
 intro pins s σ H x y v u Q I rx ry h;obtain⟨a,b,ys,rfl,rfl,ha,hb,q⟩:=h;cases rx;cases ry;obtain⟨its,r1,p1,_⟩:=I.tuple ha;obtain⟨its2,r2,p2,_⟩:=I.tuple hb;cases r1;obtain⟨⟨cls,dd,data,sl⟩,ho,hc,n,hd⟩:=id p1;obtain⟨⟨cls2,dd2,data2,sl2⟩,ho2,hc2,n2,hd2⟩:=id p2;simp only at hc hd hc2 hd2;subst hc hd hc2 hd2;exact z8x ⟨_,ho,rfl⟩ ⟨_,ho2,rfl⟩ noFill_tuple_add seq_tuple_add z7r z7m (z7f _ _)
   (tuple_addW0 a b _ _ n n2 dd dd2 sl sl2 rfl) ⟨ho,ho2,⟨.ref b,H,I,rfl,q⟩⟩
theorem ztu:zi8 K mg (fun x y H Q=>rI0 (fun i j=>.int (i+j)) x y H Q\/(∃i j,x=.str i/\y=.str j/\i.length+j.length<=sizeLine/\Q (.str (i++j)) H)\/zxm K x y H Q\/zxl K x y H Q\/zsf K x y H Q) (fun _=>qb):=by
 intro ρ H S x y dx dy d Q hS rx ry e k;replace e:qb dx dy=some d:=e;unfold qb at e;split at e
 · rename_i i j;cases e;rw[rx.refI,ry.refI];exact .inl ⟨i,j,rfl,rfl,k _ H (Ext.refl _ _) hS rfl⟩
 · rename_i i j;split at e
   · rename_i hl;cases e;rw[rx.refS,ry.refS];exact .inr (.inl ⟨i,j,rfl,rfl,hl,k _ H (Ext.refl _ _) hS rfl⟩)
   · cases e
 · rename_i a b;split at e
   · rename_i hl;cases e;obtain⟨p,vs,rfl,t1,r1⟩:=rx.refL;obtain⟨q,us,rfl,t2,r2⟩:=ry.refL;refine .inr (.inr (.inl ⟨p,q,vs,us,rfl,rfl,t1.sq,t2.sq,by rw[<-r1.length,<-r2.length];exact hl,fun z hz=>?_⟩));exact k _ _ (yw hS _ hz) (hS.new _ hz) (Rep.lst (s:=hS) hz (r1.append r2))
   · cases e
 · rename_i a b;split at e
   · rename_i hl;cases e;obtain⟨p,vs,rfl,t1,r1⟩:=rx.refT;obtain⟨q,us,rfl,t2,r2⟩:=ry.refT;cases a with
     | nil=>
       have:=r1.length;cases vs with
       |nil=>exact .inr (.inr (.inr (.inr ⟨p,q,us,rfl,rfl,t1.sq,t2.sq,k _ H (Ext.refl _ _) hS ry⟩)))
       |cons _ _=>simp at this
     | cons a0 a=>
       refine .inr (.inr (.inr (.inl ⟨p,q,vs,us,rfl,rfl,t1.sq,t2.sq,?_,by rw[<-r1.length,<-r2.length];exact hl,fun z=>?_,fun z w hw=>?_⟩)))
       · intro z;have:=r1.length;subst z;simp at this
       · have:=r2.length;subst z;cases b with
         |nil=>rw[z5y]at k;exact k _ H (Ext.refl _ _) hS rx
         |cons _ _=>simp at this
       · exact k _ _ (yw hS _ hw) (hS.new _ hw) (Rep.tup (s:=hS) hw (r1.append r2))
   · cases e
 · cases e
theorem qt{a b:Expr}{f g:E}{pos:Pos}(ha:FE X a f)(hb:FE X b g):FE X (.BinOp a .Add b pos) (e2 qb f g) :=
 zgd (op_add.or (op_add_str.or (op_catL.or (op_catT.or zqx)))) ztu ha hb
theorem zp8{C:Int->Int->Prop}{gV:Int->Int->Int}{g:Int->Int->Option Int}(h:∀i j z,g i j=some z->C i j/\z=gV i j):zi8 K mg (rI C fun i j=>.int (gV i j)) (fun _=>opI g):=by
 intro ρ H S x y dx dy d Q hS rx ry e k;replace e:opI g dx dy=some d:=e;unfold opI at e;split at e
 · rename_i i j;obtain⟨z,e1,e⟩:=zcc e;cases e;obtain⟨hc,rfl⟩:=h i j z e1;rw[rx.refI,ry.refI];exact⟨i,j,rfl,rfl,hc,k _ H (Ext.refl _ _) hS rfl⟩
 · cases e
theorem zw4{gV:Int->Int->Int}:zi8 K mg (rI0 fun i j=>.int (gV i j)) (fun _=>opI fun i j=>some (gV i j)):=by
 intro ρ H S x y dx dy d Q hS rx ry e k;replace e:opI _ dx dy=some d:=e;unfold opI at e;split at e
 · rename_i i j;cases e;rw[rx.refI,ry.refI];exact⟨i,j,rfl,rfl,k _ H (Ext.refl _ _) hS rfl⟩
 · cases e
theorem zap{g:Int->Int->Bool}:zi8 K mg (rI0 fun i j=>.bl (g i j)) (fun _=>opIB g):=by
 intro ρ H S x y dx dy d Q hS rx ry e k;replace e:opIB g dx dy=some d:=e;unfold opIB at e;split at e
 · rename_i i j;cases e;rw[rx.refI,ry.refI];exact⟨i,j,rfl,rfl,k _ H (Ext.refl _ _) hS rfl⟩
 · cases e
variable {a b:Expr}{f g:E}{pos:Pos}
theorem zac(ha:FE X a f)(hb:FE X b g):FE X (.BinOp a .Sub b pos) (e2 zad f g):=zgd zx8 zw4 ha hb
theorem zpm{i:Int}(h:IB i):Builtin.Int.intBits i<=2^20:=by
 unfold IB at h;unfold Builtin.Int.intBits;have:i.natAbs.log2<4096:=by
   by_cases h0:i.natAbs=0
   · rw[h0];decide
   · exact(Nat.log2_lt h0).mpr h
 split<;>omega
theorem zup:OpR X (binaryOp .Mult) (rI (fun i j=>CMul i j\/(IB i/\IB j)) fun i j=>.int (i*j)) :=
 L2.opI fun i j _ _ _ _ _ hc q=>mul_int q (by
   rcases hc with hc | ⟨h1,h2⟩
   · exact hc.ok
   · exact IntMulOk.of_bits (zpm h1) (zpm h2))
theorem zfb(ha:FE X a f)(hb:FE X b g):FE X (.BinOp a .Mult b pos) (e2 za4 f g):=zgd zup (zp8 fun i j z e=>by
 unfold z0q at e;split at e
 · rename_i h;cases e;refine⟨?_,rfl⟩;rcases h with h | h | h
   · exact .inl (.inl h)
   · exact .inl (.inr h)
   · exact .inr h
 · cases e) ha hb
theorem zc2(ha:FE X a f)(hb:FE X b g):FE X (.BinOp a .FloorDiv b pos) (e2 zbk f g):=zgd zuq (zp8 fun i j z e=>by
 unfold z2w at e;split at e
 · rename_i h;cases e;exact⟨h,rfl⟩
 · cases e) ha hb
theorem x9(ha:FE X a f)(hb:FE X b g):FE X (.BinOp a .Mod b pos) (e2 jr f g):=zgd zyb (zp8 fun i j z e=>by
 unfold z13 at e;split at e
 · rename_i h;cases e;exact⟨h,rfl⟩
 · cases e) ha hb
theorem zzh(ha:FE X a f)(hb:FE X b g):FE X (.BinOp a .Pow b pos) (e2 zqy f g):=zgd zx9 (zp8 fun i j z e=>by
 unfold z0o at e;split at e
 · rename_i h;cases e;exact⟨h,rfl⟩
 · cases e) ha hb
theorem zrn(ha:FE X a f)(hb:FE X b g)(hm:behindInMarks .Lt b=false:=by exact za0 _):FE X (.Compare a [.Lt] [b] pos) (e2 zai f g):=zk2 zny zap ha hb hm
theorem z2p(ha:FE X a f)(hb:FE X b g)(hm:behindInMarks .LtE b=false:=by exact za0 _):FE X (.Compare a [.LtE] [b] pos) (e2 zfv f g):=zk2 zlw zap ha hb hm
theorem z2q(ha:FE X a f)(hb:FE X b g)(hm:behindInMarks .Gt b=false:=by exact za0 _):FE X (.Compare a [.Gt] [b] pos) (e2 zfq f g):=zk2 zyd zap ha hb hm
theorem zcn(ha:FE X a f)(hb:FE X b g)(hm:behindInMarks .Lt b=false:=by exact za0 _):FB X (.Compare a [.Lt] [b] pos) (bE (e2 zai f g)):=zcd zny zap ha hb hm
theorem zzn(ha:FE X a f)(hb:FE X b g)(hm:behindInMarks .LtE b=false:=by exact za0 _):FB X (.Compare a [.LtE] [b] pos) (bE (e2 zfv f g)):=zcd zlw zap ha hb hm
theorem zha(ha:FE X a f)(hb:FE X b g)(hm:behindInMarks .Gt b=false:=by exact za0 _):FB X (.Compare a [.Gt] [b] pos) (bE (e2 zfq f g)):=zcd zyd zap ha hb hm
theorem zij(ha:FE X a f)(hb:FE X b g)(hm:behindInMarks .GtE b=false:=by exact za0 _):FB X (.Compare a [.GtE] [b] pos) (bE (e2 zi9 f g)):=zcd z1x zap ha hb hm
theorem zkz{ρ H d v}(h:Rep K mg ρ H d v):zom d=decide (v=.non):=by
 cases d with
 |non=>rw[show v=.non from h];rfl
 |bl b=>rw[show v=.bl b from h];rfl
 |int b=>rw[show v=.int b from h];rfl
 |str b=>rw[show v=.str b from h];rfl
 |fn x=>unfold Rep at h;obtain⟨p,rfl,_⟩:=h;rfl
 |ty b=>rw[show v=.ty b from h];rfl
 |tup x=>obtain⟨p,_,rfl,_⟩:=h.refT;rfl
 |lst x=>obtain⟨p,_,rfl,_⟩:=h.refL;rfl
 |obj x=>unfold Rep at h;obtain⟨p,rfl,_⟩:=h;rfl
 |lam x=>unfold Rep at h;obtain⟨p,rfl,_⟩:=h;rfl
 |clo x y=>unfold Rep at h;obtain⟨p,_,rfl,_⟩:=h;rfl
theorem zyc:OpR X (compareOp .Is) (fun x y H Q=>∃i j,x=.bl i/\y=.bl j/\Q (.bl (i==j)) H):=by intro pins s σ H x y v u Q I rx ry h;obtain⟨i,j,rfl,rfl,q⟩:=h;cases rx;cases ry;exact is_bool ⟨.bl _,H,I,rfl,q⟩
theorem znz:OpR X (compareOp .IsNot) (fun x y H Q=>∃i j,x=.bl i/\y=.bl j/\Q (.bl (i != j)) H):=by intro pins s σ H x y v u Q I rx ry h;obtain⟨i,j,rfl,rfl,q⟩:=h;cases rx;cases ry;exact isnot_bool ⟨.bl _,H,I,rfl,q⟩
theorem zw2:zi8 K mg (fun x y H Q=>(y=.non/\Q (.bl (decide (x=.non))) H)\/(∃i j,x=.bl i/\y=.bl j/\Q (.bl (i==j)) H)) (fun _=>zev):=by
 intro ρ H S x y dx dy d Q hS rx ry e k;replace e:zev dx dy=some d:=e;unfold zev at e;split at e
 · cases e;rw[zkz rx]at k;exact .inl ⟨ry,k _ H (Ext.refl _ _) hS rfl⟩
 · rename_i i j _;cases e;exact .inr ⟨_,_,rx,ry,k _ H (Ext.refl _ _) hS rfl⟩
 · cases e
theorem zm0:zi8 K mg (fun x y H Q=>(y=.non/\Q (.bl (!decide (x=.non))) H)\/(∃i j,x=.bl i/\y=.bl j/\Q (.bl (i != j)) H)) (fun _=>yc):=by
 intro ρ H S x y dx dy d Q hS rx ry e k;replace e:yc dx dy=some d:=e;unfold yc at e;split at e
 · cases e;rw[zkz rx]at k;exact .inl ⟨ry,k _ H (Ext.refl _ _) hS rfl⟩
 · rename_i i j _;cases e;exact .inr ⟨_,_,rx,ry,k _ H (Ext.refl _ _) hS rfl⟩
 · cases e
theorem zd4(ha:FE X a f)(hb:FE X b g)(hm:behindInMarks .Is b=false:=by exact za0 _):FB X (.Compare a [.Is] [b] pos) (bE (e2 zev f g)):=zcd (op_isN.or zyc) zw2 ha hb hm
theorem zb7(ha:FE X a f)(hb:FE X b g)(hm:behindInMarks .IsNot b=false:=by exact za0 _):FB X (.Compare a [.IsNot] [b] pos) (bE (e2 yc f g)):=zcd (op_notN.or znz) zm0 ha hb hm
theorem zj6{ρ H ds vs i d}(r:RepL K mg ρ H ds vs)(h:atI ds i=some d):∃v,atI vs i=some v/\Rep K mg ρ H d v:=by unfold atI at h ⊢;rw[<-r.length];obtain⟨j,h1,h2⟩:=z5 h;rw[h1];exact r.get h2
theorem zw1:zi8 K mg (rIx K) z8:=by
 intro ρ H S x y dx dy d Q hS rx ry e k;unfold z8 at e;split at e
 · rename_i ds i;obtain⟨p,vs,rfl,t,r⟩:=rx.refL;obtain⟨v,h1,h2⟩:=zj6 r e;exact .inl ⟨p,vs,i,v,rfl,ry.refI,t.sq,h1,k _ H (Ext.refl _ _) hS h2⟩
 · rename_i ds i;obtain⟨p,vs,rfl,t,r⟩:=rx.refT;obtain⟨v,h1,h2⟩:=zj6 r e;exact .inr (.inl ⟨p,vs,i,v,rfl,ry.refI,t.sq,h1,k _ H (Ext.refl _ _) hS h2⟩)
 · rename_i z i;split at e
   · rename_i hz;obtain⟨c,h1,e⟩:=zcc e;cases e;exact .inr (.inr ⟨z,i,c,rx.refS,ry.refI,hz,h1,k _ H (Ext.refl _ _) hS rfl⟩)
   · cases e
 · rename_i o i;split at e
   · rename_i ds hd;unfold Rep at rx;obtain⟨p,rfl,hp⟩:=rx;obtain⟨vs,h1,r⟩:=hS.ob o _ p hd hp;obtain⟨v,h3,h2⟩:=zj6 r e;exact .inl ⟨p,vs,i,v,rfl,ry.refI,SqL.of h1,h3,k _ H (Ext.refl _ _) hS h2⟩
   · cases e
 · cases e
theorem zr(ha:FE X a f)(hb:FE X b g)(hs:zpt b:=by exact fun _ _=>rfl):FE X (.Subscript a b pos) (e2s z8 f g):=j0 (z1r zy1 ha hb hs) fun _ _ _ h=>t2 zw1 h
end
def eqL(f:D->D->Option Bool):List D->List D->Option Bool
 |x::xs,y::ys=>(f x y).bind fun c=>(eqL f xs ys).map fun r=>c&&r
 | [],[]=>some true
 |_,_=>some false
def zfa:D->Option V
 | .non=>some .non
 | .bl b=>some (.bl b)
 | .int i=>some (.int i)
 | .str x=>some (.str x)
 |_=>none
def eqF(a b:D):Option Bool:=match zfa a,zfa b with
 |some x,some y=>some (eqV x y)
 |_,_=>none
def zol:D->Bool
 | .tup _=>true
 | .lst _=>true
 |_=>false
def eqN:Nat->D->D->Option Bool
 |0,a,b=>eqF a b
 | n+1,a,b=>match a,b with
   | .tup xs,.tup ys=>eqL (eqN n) xs ys
   | .lst xs,.lst ys=>if xs.length=ys.length then eqL (eqN n) xs ys else some false
   | .tup _,.lst _=>some false
   | .lst _,.tup _=>some false
   | a,b=>if zol a=true then (if(zfa b).isSome=true then some false else none)
     else if zol b=true then (if(zfa a).isSome=true then some false else none)
     else eqF a b
theorem zei{a b:D}{k:Bool}(h:eqF a b=some k):∃x y,zfa a=some x/\zfa b=some y/\k=eqV x y:=by
 unfold eqF at h;split at h
 · rename_i x y e1 e2;exact⟨x,y,e1,e2,(z5s h).symm⟩
 · cases h
section
variable {X:Cx}{pins:zAO}{σ:L2.St}{H:Hp}{s:Shared}{ρ:List Addr}{mg:zMg}
theorem xp{K}{d:D}{x v:V}(e:zfa d=some x)(r:Rep K mg ρ H d v):v=x/\zc1 x=true:=by
 cases d with
 |non=>cases e;exact⟨r,rfl⟩
 |bl b=>cases e;exact⟨r,rfl⟩
 |int i=>cases e;exact⟨r,rfl⟩
 |str i=>cases e;exact⟨r,rfl⟩
 |_=>cases e
theorem zo2{f:D->D->Option Bool}:∀{xs ys:List D}{k:Bool},eqL f xs ys=some k->xs.length≠ys.length->k=false
 | [],[],_,_,h=>absurd rfl h
 | [],_::_,_,h,_=>by cases h;rfl
 |_::_,[],_,h,_=>by cases h;rfl
 | x::xs,y::ys,k,h,n=>by obtain⟨c,_,h⟩:=z5 h;obtain⟨r,h2,h⟩:=zcc h;have:=zo2 h2 (fun z=>n (by simp[z]));subst this h;simp
theorem zsu{f:D->D->Option Bool}:∀{xs ys:List D}{k:Bool},eqL f xs ys=some k->∀(j:Nat) (x y:D),xs[j]? = some x->ys[j]? = some y->∃c,f x y=some c
 | x::xs,y::ys,k,h,0,_,_,e1,e2=>by obtain⟨c,h1,h⟩:=z5 h;simp at e1 e2;subst e1 e2;exact⟨c,h1⟩
 | x::xs,y::ys,k,h,j+1,_,_,e1,e2=>by obtain⟨c,h1,h⟩:=z5 h;obtain⟨r,h2,h⟩:=zcc h;exact zsu h2 j _ _ (by simpa using e1) (by simpa using e2)
 | [],_,_,_,_,_,_,e1,_=>by simp at e1
 |_::_,[],_,_,_,_,_,_,e2=>by simp at e2
def zml(f:D->D->Option Bool)(xs ys:List D)(j:Nat):Bool:=match xs[j]?,ys[j]? with
 |some x,some y=>(f x y).getD false
 |_,_=>false
theorem zjq{f:D->D->Option Bool}:∀{xs ys:List D}{k:Bool},eqL f xs ys=some k->xs.length=ys.length->k=(List.range xs.length).all (zml f xs ys)
 | [],[],_,h,_=>by cases h;rfl
 | x::xs,y::ys,k,h,e=>by
   obtain⟨c,h1,h⟩:=z5 h;obtain⟨r,h2,h⟩:=zcc h;subst h;have ih:=zjq h2 (by simpa using e);rw[List.length_cons,List.range_succ_eq_map,List.all_cons,List.all_map];have e0:zml f (x::xs) (y::ys) 0=c:=by simp[zml,h1]
   have e1:((zml f (x::xs) (y::ys))∘Nat.succ)=zml f xs ys:=by funext j;simp[zml]
   rw[e0,e1,<-ih]
 | [],_::_,_,_,e=>by simp at e
 |_::_,[],_,_,e=>by simp at e
theorem zrq{f:D->D->Option Bool}{xs ys:List D}{k:Bool}(h:eqL f xs ys=some k):k=((List.range (min xs.length ys.length)).all (zml f xs ys)&&xs.length==ys.length):=by
 by_cases e:xs.length=ys.length
 · rw[zjq h e,e];simp
 · rw[zo2 h e];have:(xs.length==ys.length)=false:=by simpa using e
   rw[this];simp
theorem zvp:∀(n:Nat) {d1 d2:D}{v:V}{k:Bool},Inv X pins σ H s->eqN n d1 d2=some k->Rep X.K mg ρ H d1 v->Rep X.K mg ρ H d2 v->k=true:=by
 intro n
 induction n with
 | zero=>
   intro d1 d2 v k I h r1 r2;obtain⟨x,y,e1,e2,rfl⟩:=zei h;obtain⟨rfl,f1⟩:=xp e1 r1;obtain⟨rfl,f2⟩:=xp e2 r2;cases v<;>first | (cases f1;done) | (simp[eqV];done)
 | succ n ih=>
   intro d1 d2 v k I h r1 r2;have lst:∀{xs ys:List D}{vs:List V}{k:Bool},eqL (eqN n) xs ys=some k->RepL X.K mg ρ H xs vs->RepL X.K mg ρ H ys vs->k=true:=by
     intro xs
     induction xs with
     | nil=>
       intro ys vs k h q1 q2;have l1:=q1.length;have l2:=q2.length;cases ys with
       |nil=>cases h;rfl
       |cons _ _=>rw[<-l1]at l2;simp at l2
     | cons x xs ihx=>
       intro ys vs k h q1 q2;cases ys with
       | nil=>
         have l1:=q1.length;have l2:=q2.length;rw[<-l2]at l1;simp at l1
       | cons y ys=>
         obtain⟨c,h1,h⟩:=z5 h;obtain⟨r,h2,h⟩:=zcc h;unfold RepL at q1 q2;obtain⟨v1,r1,rfl,a1,b1⟩:=q1;obtain⟨v2,r2,e,a2,b2⟩:=q2;cases e;rw[<-h,ih I h1 a1 a2,ihx h2 b1 b2];rfl
   unfold eqN at h;split at h
   · rename_i xs ys;obtain⟨p,vs,rfl,t1,q1⟩:=r1.refT;obtain⟨p',vs',e,t2,q2⟩:=r2.refT;cases e;have:=I.tuple_inj t1.sq t2.sq;subst this;exact lst h q1 q2
   · rename_i xs ys;obtain⟨p,vs,rfl,t1,q1⟩:=r1.refL;obtain⟨p',vs',e,t2,q2⟩:=r2.refL;cases e;have:=I.list_inj t1.sq t2.sq;subst this;rw[z5o (by rw[q1.length,q2.length])]at h;exact lst h q1 q2
   · rename_i xs ys;obtain⟨p,vs,rfl,t1,q1⟩:=r1.refT;obtain⟨p',vs',e,t2,q2⟩:=r2.refL;cases e;obtain⟨_,_,⟨o,e1,c1,_⟩,_⟩:=I.tuple t1.sq;obtain⟨_,_,⟨o',_,e2,c2,_⟩,_⟩:=I.list t2.sq;rw[e1]at e2;cases e2;rw[c1]at c2;exact absurd (Value.type.inj c2) (by decide)
   · rename_i xs ys;obtain⟨p,vs,rfl,t1,q1⟩:=r1.refL;obtain⟨p',vs',e,t2,q2⟩:=r2.refT;cases e;obtain⟨_,_,⟨o,e1,c1,_⟩,_⟩:=I.tuple t2.sq;obtain⟨_,_,⟨o',_,e2,c2,_⟩,_⟩:=I.list t1.sq;rw[e1]at e2;cases e2;rw[c1]at c2;exact absurd (Value.type.inj c2) (by decide)
   · split at h
     · rename_i hs;split at h
       · rename_i hb;obtain⟨y,ey⟩:=z6p.mp hb;obtain⟨rfl,f2⟩:=xp ey r2;cases d1 with
         |tup _=>obtain⟨p,_,rfl,_⟩:=r1.refT;cases f2
         |lst _=>obtain⟨p,_,rfl,_⟩:=r1.refL;cases f2
         |_=>cases hs
       · cases h
     · split at h
       · rename_i hs;split at h
         · rename_i hb;obtain⟨y,ey⟩:=z6p.mp hb;obtain⟨rfl,f2⟩:=xp ey r1;cases d2 with
           |tup _=>obtain⟨p,_,rfl,_⟩:=r2.refT;cases f2
           |lst _=>obtain⟨p,_,rfl,_⟩:=r2.refL;cases f2
           |_=>cases hs
         · cases h
       · obtain⟨x,y,e1,e2,rfl⟩:=zei h;obtain⟨rfl,f1⟩:=xp e1 r1;obtain⟨rfl,f2⟩:=xp e2 r2;cases v<;>first | (cases f1;done) | (simp[eqV];done)
theorem znm{A:Around}{x y:V}{u w:Value}(ru:RelV x u)(rw':RelV y w)(fx:zc1 x=true)(fy:zc1 y=true):SeqAt.RcAt A s u w (eqV x y):=by
 cases x with
 | non=>
   cases ru;cases y with
   |non=>cases rw';exact SeqAt.RcAt.none_none
   |bl b=>cases rw';exact SeqAt.RcAt.none_bool b
   |int b=>obtain⟨t,rfl⟩:=rw';exact SeqAt.RcAt.none_int b t
   |str b=>obtain⟨t,rfl⟩:=rw';exact SeqAt.RcAt.none_str b t
   |_=>cases fy
 | bl a=>
   cases ru;cases y with
   |non=>cases rw';exact SeqAt.RcAt.bool_none a
   |bl b=>cases rw';exact SeqAt.RcAt.bool_bool a b
   |int b=>obtain⟨t,rfl⟩:=rw';exact SeqAt.RcAt.bool_int a b t
   |str b=>obtain⟨t,rfl⟩:=rw';exact SeqAt.RcAt.bool_str a b t
   |_=>cases fy
 | int a=>
   obtain⟨t',rfl⟩:=ru;cases y with
   |non=>cases rw';exact SeqAt.RcAt.int_none a t'
   |bl b=>cases rw';exact SeqAt.RcAt.int_bool a t' b
   |int b=>obtain⟨t,rfl⟩:=rw';exact SeqAt.RcAt.int_int a t' b t
   |str b=>obtain⟨t,rfl⟩:=rw';exact SeqAt.RcAt.int_str a t' b t
   |_=>cases fy
 | str a=>
   obtain⟨t',rfl⟩:=ru;cases y with
   |non=>cases rw';exact SeqAt.RcAt.str_none a t'
   |bl b=>cases rw';exact SeqAt.RcAt.str_bool a t' b
   |int b=>obtain⟨t,rfl⟩:=rw';exact SeqAt.RcAt.str_int a t' b t
   |str b=>obtain⟨t,rfl⟩:=rw';exact SeqAt.RcAt.str_str a t' b t
   |_=>cases fy
 |_=>cases fx
theorem zh5{A:Around}{x y:V}{u w:Value}(ru:RelV x u)(rw':RelV y w)(fx:zc1 x=true)(fy:zc1 y=true):SeqAt.RcNeAt A s u w (!eqV x y):=by
 cases x with
 | non=>
   cases ru;cases y with
   |non=>cases rw';exact SeqAt.RcNeAt.none_none
   |bl b=>cases rw';exact SeqAt.RcNeAt.none_bool b
   |int b=>obtain⟨t,rfl⟩:=rw';exact SeqAt.RcNeAt.none_int b t
   |str b=>obtain⟨t,rfl⟩:=rw';exact SeqAt.RcNeAt.none_str b t
   |_=>cases fy
 | bl a=>
   cases ru;cases y with
   |non=>cases rw';exact SeqAt.RcNeAt.bool_none a
   |bl b=>cases rw';exact SeqAt.RcNeAt.bool_bool a b
   |int b=>obtain⟨t,rfl⟩:=rw';exact SeqAt.RcNeAt.bool_int a b t
   |str b=>obtain⟨t,rfl⟩:=rw';exact SeqAt.RcNeAt.bool_str a b t
   |_=>cases fy
 | int a=>
   obtain⟨t',rfl⟩:=ru;cases y with
   |non=>cases rw';exact SeqAt.RcNeAt.int_none a t'
   |bl b=>cases rw';exact SeqAt.RcNeAt.int_bool a t' b
   |int b=>obtain⟨t,rfl⟩:=rw';exact SeqAt.RcNeAt.int_int a t' b t
   |str b=>obtain⟨t,rfl⟩:=rw';exact SeqAt.RcNeAt.int_str a t' b t
   |_=>cases fy
 | str a=>
   obtain⟨t',rfl⟩:=ru;cases y with
   |non=>cases rw';exact SeqAt.RcNeAt.str_none a t'
   |bl b=>cases rw';exact SeqAt.RcNeAt.str_bool a t' b
   |int b=>obtain⟨t,rfl⟩:=rw';exact SeqAt.RcNeAt.str_int a t' b t
   |str b=>obtain⟨t,rfl⟩:=rw';exact SeqAt.RcNeAt.str_str a t' b t
   |_=>cases fy
 |_=>cases fx
theorem zky{A:Around}{n:Nat}{xs ys:List D}{vs us:List V}{its its2:List Value}(hq:∀{d1 d2:D}{v w:V}{a b:Value}{k:Bool},eqN n d1 d2=some k->Rep X.K mg ρ H d1 v->Rep X.K mg ρ H d2 w->RelV v a->RelV w b->SeqAt.EqAt A s a b k){k:Bool}(h:eqL (eqN n) xs ys=some k)
   (r1:RepL X.K mg ρ H xs vs) (r2:RepL X.K mg ρ H ys us) (q1:Vals vs its) (q2:Vals us its2) :
   ∀j (h1:j<its.toArray.size) (h2:j<its2.toArray.size),SeqAt.EqAt A s its.toArray[j] its2.toArray[j] (zml (eqN n) xs ys j):=by
 intro j h1 h2;have l1:=r1.length;have l2:=r2.length;have l3:=q1.length;have l4:=q2.length;rw[z46]at h1 h2;have e1:xs[j]? = some xs[j]:=z44 (by omega);have e2:ys[j]? = some ys[j]:=z44 (by omega);obtain⟨v,ev,rv⟩:=r1.get e1;obtain⟨w,ew,rw'⟩:=r2.get e2;obtain⟨a,ea,ra⟩:=q1.get ev;obtain⟨b,eb,rb⟩:=q2.get ew;obtain⟨c,hc⟩:=zsu h j _ _ e1 e2;have z1:its.toArray[j]=a:=by rw[z44 h1]at ea;simpa using ea
 have z2:its2.toArray[j]=b:=by rw[z44 h2]at eb;simpa using eb
 have z3:zml (eqN n) xs ys j=c:=by simp[zml,e1,e2,hc]
 rw[z1,z2,z3];exact hq hc rv rw' ra rb
theorem zzp:∀(n:Nat) {A:Around}{d1 d2:D}{v w:V}{a b:Value}{k:Bool},Inv X pins σ H s->A.units+n<cLine->eqN n d1 d2=some k->Rep X.K mg ρ H d1 v->Rep X.K mg ρ H d2 w->RelV v a->RelV w b ->
   SeqAt.RcAt A s a b k/\SeqAt.RcNeAt A s a b (!k)/\SeqAt.EqAt A s a b k:=by
 intro n
 induction n with
 | zero=>
   intro A d1 d2 v w a b k I hu h r1 r2 ra rb;obtain⟨x,y,e1,e2,rfl⟩:=zei h;obtain⟨rfl,f1⟩:=xp e1 r1;obtain⟨rfl,f2⟩:=xp e2 r2;exact⟨znm ra rb f1 f2,zh5 ra rb f1 f2,zo3 ra rb f1 f2⟩
 | succ n ih=>
   intro A d1 d2 v w a b k I hu h r1 r2 ra rb;have hs:∀{u:V},Rep X.K mg ρ H d1 u->Rep X.K mg ρ H d2 u->k=true:=fun a b=>zvp (n+1) I h a b;have hin:A.in1.units+n<cLine:=by show A.units+1+n<cLine;omega
   have hu0:A.units<cLine:=by omega
   have same:∀{p q:Addr},v=.ref p->w=.ref q->SeqAt.RcAt A s (.ref p) (.ref q) k->SeqAt.EqAt A s a b k:=by
     intro p q e1 e2 rc;subst e1 e2;cases ra;cases rb;by_cases hpq:p=q
     · subst hpq;rw[hs r1 r2];exact SeqAt.EqAt.same _
     · exact SeqAt.EqAt.of_refs hpq rc
   unfold eqN at h;split at h
   · rename_i xs ys;obtain⟨p,vs,rfl,t1,q1⟩:=r1.refT;obtain⟨p',us,rfl,t2,q2⟩:=r2.refT;cases ra;cases rb;obtain⟨its,z1,pt1,_⟩:=I.tuple t1.sq;obtain⟨its2,z2,pt2,_⟩:=I.tuple t2.sq;have hit:=zky (A:=A.in1) (s:=s) (fun e a1 a2 a3 a4=>(ih I hin e a1 a2 a3 a4).2.2) h q1 q2 z1 z2;have l1:=q1.length;have l2:=q2.length;have l3:=z1.length;have l4:=z2.length;have ek:k=((List.range (min its.toArray.size its2.toArray.size)).all (zml (eqN n) xs ys)&&its.toArray.size==its2.toArray.size):=by rw[z46,z46,<-l3,<-l4,<-l1,<-l2];exact zrq h
     have rc:=SeqAt.RcAt.tuples (A:=A) (s:=s) pt1 pt2 hu0 hit;have rn:=SeqAt.RcNeAt.tuples (A:=A) (s:=s) pt1 pt2 hu0 hit;rw[<-ek]at rc;refine⟨rc,?_,same rfl rfl rc⟩;rw[ek];exact rn
   · rename_i xs ys;obtain⟨p,vs,rfl,t1,q1⟩:=r1.refL;obtain⟨p',us,rfl,t2,q2⟩:=r2.refL;cases ra;cases rb;obtain⟨its,z1,pt1,_⟩:=I.list t1.sq;obtain⟨its2,z2,pt2,_⟩:=I.list t2.sq;have l1:=q1.length;have l2:=q2.length;have l3:=z1.length;have l4:=z2.length;split at h
     · rename_i hl;have hit:=zky (A:=A.in1) (s:=s) (fun e a1 a2 a3 a4=>(ih I hin e a1 a2 a3 a4).2.2) h q1 q2 z1 z2;have hsz:its.toArray.size=its2.toArray.size:=by rw[z46,z46];omega
       have ek:k=(List.range its.toArray.size).all (zml (eqN n) xs ys):=by rw[z46,<-l3,<-l1];exact zjq h hl
       have rc:=SeqAt.RcAt.lists (A:=A) (s:=s) pt1.isList pt2.isList hsz hu0 hit;have rn:=SeqAt.RcNeAt.lists (A:=A) (s:=s) pt1.isList pt2.isList hsz hu0 hit;rw[<-ek]at rc;refine⟨rc,?_,same rfl rfl rc⟩;rw[ek];exact rn
     · rename_i hl;cases h;have hsz:(its.toArray.size != its2.toArray.size)=true:=by rw[z46,z46];simp;omega
       have rc:=SeqAt.RcAt.lists_lengths (A:=A) (s:=s) pt1.isList pt2.isList hsz hu0;have rn:=SeqAt.RcNeAt.lists_lengths (A:=A) (s:=s) pt1.isList pt2.isList hsz hu0;exact⟨rc,rn,same rfl rfl rc⟩
   · rename_i xs ys;cases h;obtain⟨p,vs,rfl,t1,q1⟩:=r1.refT;obtain⟨p',us,rfl,t2,q2⟩:=r2.refL;cases ra;cases rb;obtain⟨its,z1,pt1,_⟩:=I.tuple t1.sq;obtain⟨its2,z2,pt2,_⟩:=I.list t2.sq;exact⟨SeqAt.RcAt.tuple_list pt1 pt2.isList hu0,SeqAt.RcNeAt.tuple_list pt1 pt2.isList hu0,SeqAt.EqAt.tuple_list pt1 pt2.isList hu0⟩
   · rename_i xs ys;cases h;obtain⟨p,vs,rfl,t1,q1⟩:=r1.refL;obtain⟨p',us,rfl,t2,q2⟩:=r2.refT;cases ra;cases rb;obtain⟨its,z1,pt1,_⟩:=I.list t1.sq;obtain⟨its2,z2,pt2,_⟩:=I.tuple t2.sq;exact⟨SeqAt.RcAt.list_tuple pt1.isList pt2 hu0,SeqAt.RcNeAt.list_tuple pt1.isList pt2 hu0,SeqAt.EqAt.list_tuple pt1.isList pt2 hu0⟩
   · split at h
     · rename_i hsq;split at h
       · rename_i hb;cases h;obtain⟨y,ey⟩:=z6p.mp hb;obtain⟨rfl,f2⟩:=xp ey r2;cases d1 with
         | tup _=>
           obtain⟨p,vs,rfl,t1,q1⟩:=r1.refT;cases ra;obtain⟨its,z1,pt,_⟩:=I.tuple t1.sq;cases w with
           |non=>cases rb;exact⟨SeqAt.RcAt.tuple_none pt hu0,SeqAt.RcNeAt.tuple_none pt hu0,SeqAt.EqAt.tuple_none pt hu0⟩
           |bl c=>cases rb;exact⟨SeqAt.RcAt.tuple_bool c pt hu0,SeqAt.RcNeAt.tuple_bool c pt hu0,SeqAt.EqAt.tuple_bool c pt hu0⟩
           |int c=>obtain⟨t,rfl⟩:=rb;exact⟨SeqAt.RcAt.tuple_int c t pt hu0,SeqAt.RcNeAt.tuple_int c t pt hu0,SeqAt.EqAt.tuple_int c t pt hu0⟩
           |str c=>obtain⟨t,rfl⟩:=rb;exact⟨SeqAt.RcAt.tuple_str c t pt hu0,SeqAt.RcNeAt.tuple_str c t pt hu0,SeqAt.EqAt.tuple_str c t pt hu0⟩
           |_=>cases f2
         | lst _=>
           obtain⟨p,vs,rfl,t1,q1⟩:=r1.refL;cases ra;obtain⟨its,z1,pl,_⟩:=I.list t1.sq;have pt:=pl.isList;cases w with
           |non=>cases rb;exact⟨SeqAt.RcAt.list_none pt hu0,SeqAt.RcNeAt.list_none pt hu0,SeqAt.EqAt.list_none pt hu0⟩
           |bl c=>cases rb;exact⟨SeqAt.RcAt.list_bool c pt hu0,SeqAt.RcNeAt.list_bool c pt hu0,SeqAt.EqAt.list_bool c pt hu0⟩
           |int c=>obtain⟨t,rfl⟩:=rb;exact⟨SeqAt.RcAt.list_int c t pt hu0,SeqAt.RcNeAt.list_int c t pt hu0,SeqAt.EqAt.list_int c t pt hu0⟩
           |str c=>obtain⟨t,rfl⟩:=rb;exact⟨SeqAt.RcAt.list_str c t pt hu0,SeqAt.RcNeAt.list_str c t pt hu0,SeqAt.EqAt.list_str c t pt hu0⟩
           |_=>cases f2
         |_=>cases hsq
       · cases h
     · split at h
       · rename_i hsq;split at h
         · rename_i hb;cases h;obtain⟨y,ey⟩:=z6p.mp hb;obtain⟨rfl,f2⟩:=xp ey r1;cases d2 with
           | tup _=>
             obtain⟨p,vs,rfl,t1,q1⟩:=r2.refT;cases rb;obtain⟨its,z1,pt,_⟩:=I.tuple t1.sq;cases v with
             |non=>cases ra;exact⟨SeqAt.RcAt.none_tuple pt hu0,SeqAt.RcNeAt.none_tuple pt hu0,SeqAt.EqAt.none_tuple pt hu0⟩
             |bl c=>cases ra;exact⟨SeqAt.RcAt.bool_tuple c pt hu0,SeqAt.RcNeAt.bool_tuple c pt hu0,SeqAt.EqAt.bool_tuple c pt hu0⟩
             |int c=>obtain⟨t,rfl⟩:=ra;exact⟨SeqAt.RcAt.int_tuple c t pt hu0,SeqAt.RcNeAt.int_tuple c t pt hu0,SeqAt.EqAt.int_tuple c t pt hu0⟩
             |str c=>obtain⟨t,rfl⟩:=ra;exact⟨SeqAt.RcAt.str_tuple c t pt hu0,SeqAt.RcNeAt.str_tuple c t pt hu0,SeqAt.EqAt.str_tuple c t pt hu0⟩
             |_=>cases f2
           | lst _=>
             obtain⟨p,vs,rfl,t1,q1⟩:=r2.refL;cases rb;obtain⟨its,z1,pl,_⟩:=I.list t1.sq;have pt:=pl.isList;cases v with
             |non=>cases ra;exact⟨SeqAt.RcAt.none_list pt hu0,SeqAt.RcNeAt.none_list pt hu0,SeqAt.EqAt.none_list pt hu0⟩
             |bl c=>cases ra;exact⟨SeqAt.RcAt.bool_list c pt hu0,SeqAt.RcNeAt.bool_list c pt hu0,SeqAt.EqAt.bool_list c pt hu0⟩
             |int c=>obtain⟨t,rfl⟩:=ra;exact⟨SeqAt.RcAt.int_list c t pt hu0,SeqAt.RcNeAt.int_list c t pt hu0,SeqAt.EqAt.int_list c t pt hu0⟩
             |str c=>obtain⟨t,rfl⟩:=ra;exact⟨SeqAt.RcAt.str_list c t pt hu0,SeqAt.RcNeAt.str_list c t pt hu0,SeqAt.EqAt.str_list c t pt hu0⟩
             |_=>cases f2
           |_=>cases hsq
         · cases h
       · obtain⟨x,y,e1,e2,rfl⟩:=zei h;obtain⟨rfl,f1⟩:=xp e1 r1;obtain⟨rfl,f2⟩:=xp e2 r2;exact⟨znm ra rb f1 f2,zh5 ra rb f1 f2,zo3 ra rb f1 f2⟩
end
def ki(a b:D):Option D:=(eqN 150 a b).map D.bl
def zqz(a b:D):Option D:=(eqN 150 a b).map fun k=>D.bl !k
section
variable {X:Cx}{a b:Expr}{f g:E}{pos:Pos}
def z0n(K:zFr)(mg:zMg)(neg:Bool):R2:=fun x y H Q=>∃(ρ:List Addr) (d1 d2:D) (k:Bool),Rep K mg ρ H d1 x/\Rep K mg ρ H d2 y/\eqN 150 d1 d2=some k/\Q (.bl (if neg then !k else k)) H
theorem zsm(hu:X.A.units+150<cLine):OpR X (compareOp .Eq) (z0n X.K X.mg false):=by intro pins s σ H x y v u Q I rx ry h;obtain⟨ρ,d1,d2,k,h1,h2,h3,q⟩:=h;exact(zzp 150 I hu h3 h1 h2 rx ry).1 _ _ _ _ ⟨.bl k,H,I,rfl,q⟩
theorem zya(hu:X.A.units+150<cLine):OpR X (compareOp .NotEq) (z0n X.K X.mg true):=by intro pins s σ H x y v u Q I rx ry h;obtain⟨ρ,d1,d2,k,h1,h2,h3,q⟩:=h;exact(zzp 150 I hu h3 h1 h2 rx ry).2.1 _ _ _ _ ⟨.bl (!k),H,I,rfl,q⟩
theorem zm2{K mg}:zi8 K mg (z0n K mg false) (fun _=>ki):=by intro ρ H S x y dx dy d Q hS rx ry e k;obtain⟨c,e1,e⟩:=zcc e;subst e;exact⟨ρ,dx,dy,c,rx,ry,e1,k _ H (Ext.refl _ _) hS rfl⟩
theorem ztp{K mg}:zi8 K mg (z0n K mg true) (fun _=>zqz):=by intro ρ H S x y dx dy d Q hS rx ry e k;obtain⟨c,e1,e⟩:=zcc e;subst e;exact⟨ρ,dx,dy,c,rx,ry,e1,k _ H (Ext.refl _ _) hS rfl⟩
theorem zzk{k:Nat}(hr:Room k X.A)(ha:FE X a f)(hb:FE X b g)(hm:behindInMarks .Eq b=false:=by exact za0 _):FE X (.Compare a [.Eq] [b] pos) (e2 ki f g):=zk2 (zsm (by have:=hr.un;omega)) zm2 ha hb hm
theorem kt{k:Nat}(hr:Room k X.A)(ha:FE X a f)(hb:FE X b g)(hm:behindInMarks .Eq b=false:=by exact za0 _):FB X (.Compare a [.Eq] [b] pos) (bE (e2 ki f g)):=zcd (zsm (by have:=hr.un;omega)) zm2 ha hb hm
theorem zvj{k:Nat}(hr:Room k X.A)(ha:FE X a f)(hb:FE X b g)(hm:behindInMarks .NotEq b=false:=by exact za0 _):FB X (.Compare a [.NotEq] [b] pos) (bE (e2 zqz f g)):=zcd (zya (by have:=hr.un;omega)) ztp ha hb hm
end
def y9(S:Sto):List D->Option D
 | [.lst ds]=>some (.int ds.length)
 | [.tup ds]=>some (.int ds.length)
 | [.str z]=>if z.length<=sizeLine then some (.int z.length)else none
 | [.obj a]=>(match S[a]? with
   |some (.lst ds)=>some (.int ds.length)
   |_=>none)
 |_=>none
def z0f(_:Sto):List D->Option D
 | [.int i]=>some (.int (if i<0 then -i else i))
 |_=>none
def zyr(_:Sto):List D->Option D
 | [.int i,.int j]=>some (.int (if j>i then j else i))
 |_=>none
section
variable {X:Cx}{K:zFr}{mg:zMg}
theorem one{ρ H d xs}(r:RepL K mg ρ H [d] xs):∃v,xs=[v]/\Rep K mg ρ H d v:=by unfold RepL at r;obtain⟨v,t,rfl,h1,h2⟩:=r;unfold RepL at h2;subst h2;exact⟨v,rfl,h1⟩
theorem two{ρ H d e xs}(r:RepL K mg ρ H [d,e] xs):∃v w,xs=[v,w]/\Rep K mg ρ H d v/\Rep K mg ρ H e w:=by unfold RepL at r;obtain⟨v,t,rfl,h1,h2⟩:=r;obtain⟨w,rfl,h3⟩:=one h2;exact⟨v,w,rfl,h1,h3⟩
theorem ztr:zs6 K mg (fun xs H Q=>(∃p ys,xs=[.ref p]/\(SqL K H p ys\/SqT K H p ys)/\Q (.int ys.length) H)\/(∃z,xs=[.str z]/\z.length<=sizeLine/\Q (.int z.length) H)) y9:=by
 intro ρ H S xs ds d Q hS r e k;unfold y9 at e;split at e
 · cases e;replace r:=one r;obtain⟨v,rfl,r⟩:=r;obtain⟨p,vs,rfl,t,r⟩:=r.refL;exact .inl ⟨p,vs,rfl,.inl t.sq,by rw[<-r.length];exact k _ H (Ext.refl _ _) hS rfl⟩
 · cases e;replace r:=one r;obtain⟨v,rfl,r⟩:=r;obtain⟨p,vs,rfl,t,r⟩:=r.refT;exact .inl ⟨p,vs,rfl,.inr t.sq,by rw[<-r.length];exact k _ H (Ext.refl _ _) hS rfl⟩
 · split at e
   · rename_i hz;cases e;replace r:=one r;obtain⟨v,rfl,r⟩:=r;rw[r.refS];exact .inr ⟨_,rfl,hz,k _ H (Ext.refl _ _) hS rfl⟩
   · cases e
 · split at e
   · rename_i ds hd;cases e;replace r:=one r;obtain⟨v,rfl,r⟩:=r;unfold Rep at r;obtain⟨p,rfl,hp⟩:=r;obtain⟨vs,h1,r⟩:=hS.ob _ _ p hd hp;exact .inl ⟨p,vs,rfl,.inl (SqL.of h1),by rw[<-r.length];exact k _ H (Ext.refl _ _) hS rfl⟩
   · cases e
 · cases e
variable {e:Expr}{es:List Expr}{p pos:Pos}{g:As}
theorem jx(hm:X.mg "len"=none)(ha:FA X [e] g)(hg:Gl X "len":=by rfl)(he:starEach [e] X.env=(false,eval e X.env)::starEach [] X.env:=by exact qm rfl)(hpl:(backTo pos (starEach [] X.env)).any (·.1)=false:=by exact jy rfl):FE X (.Call (.Name "len" p) [e] [] pos) (eA y9 g) :=
 zk3 (call_len_seq.or ziq) ztr hm PySem.boot_len ha hg (by decide) (by decide) he hpl
theorem ztv:zs6 K mg (fun xs H Q=>∃i,xs=[.int i]/\Q (.int (if i<0 then -i else i)) H) z0f:=by
 intro ρ H S xs ds d Q hS r e k;unfold z0f at e;split at e
 · cases e;replace r:=one r;obtain⟨v,rfl,r⟩:=r;rw[r.refI];exact⟨_,rfl,k _ H (Ext.refl _ _) hS rfl⟩
 · cases e
theorem zzl(hm:X.mg "abs"=none)(ha:FA X [e] g)(hg:Gl X "abs":=by rfl)(he:starEach [e] X.env=(false,eval e X.env)::starEach [] X.env:=by exact qm rfl)(hpl:(backTo pos (starEach [] X.env)).any (·.1)=false:=by exact jy rfl):FE X (.Call (.Name "abs" p) [e] [] pos) (eA z0f g) :=
 zk3 zrv ztv hm (by with_unfolding_all rfl) ha hg (by decide) (by decide) he hpl
theorem ztq:zs6 K mg (fun xs H Q=>∃i j,xs=[.int i,.int j]/\Q (.int (if j>i then j else i)) H) zyr:=by
 intro ρ H S xs ds d Q hS r e k;unfold zyr at e;split at e
 · cases e;replace r:=two r;obtain⟨v,w,rfl,r1,r2⟩:=r;rw[r1.refI,r2.refI];exact⟨_,_,rfl,k _ H (Ext.refl _ _) hS rfl⟩
 · cases e
theorem zzj(hm:X.mg "max"=none)(ha:FA X (e::es) g)(hc:X.calm=true:=by rfl)(hg:Gl X "max":=by rfl)(he:starEach (e::es) X.env=(false,eval e X.env)::starEach es X.env:=by exact qm rfl)(hpl:(backTo pos (starEach es X.env)).any (·.1)=false:=by exact jy rfl):FE X (.Call (.Name "max" p) (e::es) [] pos) (eA zyr g) :=
 zk3 (zpe hc) ztq hm (by with_unfolding_all rfl) ha hg (by decide) (by decide) he hpl
def zzz(xs:List D)(lo hi:Option Int):List D:=(xs.drop (HT.sIx xs.length 0 lo)).take (HT.sIx xs.length xs.length hi-HT.sIx xs.length 0 lo)
def zye:D->Option Int->Option Int->Option D
 | .lst ds,lo,hi=>some (.lst (zzz ds lo hi))
 | .tup ds,lo,hi=>if HT.sIx ds.length 0 lo=0/\HT.sIx ds.length ds.length hi=ds.length then none else some (.tup (zzz ds lo hi))
 |_,_,_=>none
abbrev Pt:=Ev->Sto->Option (Option Int×Sto)
def pN:Pt:=fun _ S=>some (none,S)
def pE(f:E):Pt:=fun ev S=>(f ev S).bind fun p=>match p.1 with
 | .int i=>some (some i,p.2)
 |_=>none
def eSl(f:E)(a b:Pt):E:=fun ev S=>(f ev S).bind fun p=>(a ev p.2).bind fun q=>(b ev q.2).bind fun r=>(zye p.1 q.1 r.1).map fun d=>(d,r.2)
def tPt(K:zFr)(mg:zMg)(f:Pt):TO:=fun σ H Q=>∃ρ ev S o S',EnvR K mg ρ H ev σ/\StOk K mg ρ H S/\f ev S=some (o,S')/\∀ρ' H',Ext ρ H ρ' H'->StOk K mg ρ' H' S'->Q o H'
def FPt(X:Cx)(e:Option Expr)(f:Pt):Prop:=PO X e (tPt X.K X.mg f)
theorem znt{e:Option Expr}{t t':TO}(h:PO X e t)(m:∀σ H Q,t' σ H Q->t σ H Q):PO X e t':=fun pins s σ H Q I q=>h pins s σ H Q I (m _ _ _ q)
theorem zaa:FPt X none pN:=znt zui fun σ H Q h=>by obtain⟨ρ,ev,S,o,S',hE,hS,hf,k⟩:=h;cases hf;exact k ρ H (Ext.refl _ _) hS
theorem yg{f:E}(h:FE X e f):FPt X (some e) (pE f):=znt (zuh h) fun σ H Q h=>by
 obtain⟨ρ,ev,S,o,S',hE,hS,hf,k⟩:=h;obtain⟨⟨x,S1⟩,q1,hf⟩:=z5 hf;cases x with
 | int i=>
   cases hf;exact⟨ρ,ev,S,_,_,hE,hS,q1,fun v ρ1 H1 E1 hS1 r1=>⟨i,r1,k ρ1 H1 E1 hS1⟩⟩
 |_=>cases hf
theorem zo7{ρ H ds vs}(r:RepL K mg ρ H ds vs)(lo hi:Option Int):RepL K mg ρ H (zzz ds lo hi) (zsz vs lo hi):=by unfold zzz zsz;rw[r.length];exact(r.drop _).take _
theorem kh{a:Expr}{lo hi:Option Expr}{f:E}{u w:Pt}{p2:Pos}(ha:FE X a f)(hl:FPt X lo u)(hh:FPt X hi w):FE X (.Subscript a (.Slice lo hi none p2) pos) (eSl f u w) :=
 j0 (zqr (sl_list.or zw5) ha hl hh) fun σ H Q h=>by
   obtain⟨ρ,ev,S,d,S',hE,hS,hf,k⟩:=h;obtain⟨⟨x,S1⟩,q1,hf⟩:=z5 hf;obtain⟨⟨lo,S2⟩,q2,hf⟩:=z5 hf;obtain⟨⟨hi,S3⟩,q3,hf⟩:=z5 hf;obtain⟨z,q4,hf⟩:=zcc hf;cases hf;refine⟨ρ,ev,S,x,S1,hE,hS,q1,fun v ρ1 H1 E1 hS1 r1=>⟨ρ1,ev,S1,lo,S2,hE.mono E1,hS1,q2,fun ρ2 H2 E2 hS2=>⟨ρ2,ev,S2,hi,_,(hE.mono E1).mono E2,hS2,q3,fun ρ3 H3 E3 hS3=>?_⟩⟩⟩;have r3:=(r1.mono E2).mono E3;have E:=(E1.trans E2).trans E3;cases x with
   | lst ds=>
     cases q4;obtain⟨p,vs,rfl,t,r⟩:=r3.refL;exact .inl ⟨p,vs,rfl,t.sq,fun b hb=>k _ _ _ (E.trans (yw hS3 _ hb)) (hS3.new _ hb) (Rep.lst (s:=hS3) hb (zo7 r lo hi))⟩
   | tup ds=>
     replace q4:(if HT.sIx ds.length 0 lo=0/\HT.sIx ds.length ds.length hi=ds.length then none else some (D.tup (zzz ds lo hi)))=some d:=q4;split at q4
     · cases q4
     · rename_i hn;cases q4;obtain⟨p,vs,rfl,t,r⟩:=r3.refT;exact .inr ⟨p,vs,rfl,t.sq,by rw[<-r.length];exact hn,fun b hb=>k _ _ _ (E.trans (yw hS3 _ hb)) (hS3.new _ hb) (Rep.tup (s:=hS3) hb (zo7 r lo hi))⟩
   |_=>cases q4
theorem zc0{o:Expr}{f h:E}{apos spos:Pos}(ho:FE X o f)(hv:FE X e h)
   (hbase:attributeBase o "append" X.env (eval o X.env)=eval o X.env:=by rfl)
   (hfew:((backTo pos (starEach [e] X.env)).all (fun x=>!x.1)&&(backToKw pos (keywordEach [] X.env)).all (fun x=>x.1.isSome)
     && decide ([e].length+([]:List Keyword).length+(if([]:List Keyword).isEmpty then 0 else 1)<30))=true:=by rfl)
   (hline:(apos.endLine==pos.line)=true:=by rfl) (hs:starEach [e] X.env=(false,eval e X.env)::starEach [] X.env:=by exact qm rfl) (hplain:(backTo pos (starEach [] X.env)).any (·.1)=false:=by exact jy rfl)
   (hsw:swapsWith (.Call (.Attribute o "append" apos) [e] [] pos) none spos.line X.env=pure false:=by rfl) :
   FS X (.Expr (.Call (.Attribute o "append" apos) [e] [] pos) spos) (kr f h) :=
 y8 (znr (z1s PySem.F.plainAttrs_list PySem.F.slot_list_append PySem.F.type_list_append zn6 ho (za hv zc hs) hbase hfew hline hs hplain) hsw) fun σ H D h=>by
   obtain⟨ρ,ev,S,o,S',hE,hS,hf,k⟩:=h;obtain⟨⟨x,S1⟩,q1,hf⟩:=z5 hf;cases x with
   | obj a=>
     dsimp only at hf;split at hf
     · rename_i ds0 hd0;obtain⟨⟨y,S2⟩,q2,hf⟩:=z5 hf;dsimp only at hf;split at hf
       · rename_i ds hd;split at hf
         · rename_i hl;cases hf;refine⟨ρ,ev,S,_,S1,hE,hS,q1,fun v ρ1 H1 E1 hS1 r1=>?_⟩;have r1':=r1;unfold Rep at r1';obtain⟨p,rfl,hp⟩:=r1';obtain⟨us0,hu0,_⟩:=hS1.ob a _ p hd0 hp;refine⟨.inl ⟨rfl,_,SqL.of hu0⟩,ρ1,ev,S1,[y],S2,hE.mono E1,hS1,by simp only[aC,aN,q2,Option.bind_some],fun vs ρ2 H2 E2 hS2 r2=>?_⟩;obtain⟨w,rfl,r3⟩:=one r2;have hp2:=E2.pre _ _ hp;obtain⟨us,h2,h3⟩:=hS2.ob a _ p hd hp2;have e0:=zhb hS2 (.lst (us++[w])) hp2;refine⟨p,us,w,rfl,rfl,h2,by rw[<-h3.length];exact hl,?_⟩;refine k σ ρ2 _ ((E1.trans E2).trans e0) (hS2.set hp2 ⟨_,jh,?_⟩) (((hE.mono E1).mono E2).mono e0);exact(h3.append (RepL.cons r3 RepL.nil)).mono e0
         · cases hf
       · cases hf
     · cases hf
   |_=>cases hf
theorem zi2:bootBuiltins "list"=some (.type "list"):=by with_unfolding_all rfl
theorem zr0:bootBuiltins "int"=some (.type "int"):=by with_unfolding_all rfl
end
def zpx(n:Nat)(g:G):G:=fun ds S=>g (ds++List.replicate n .non) S
theorem qw(i:Nat){X:Cx}{x:Str}{px:Pos}{es:List Expr}{is:List Nat}{t:TGs}(hN:X.N.Nodup)(h:Names X es is t)(hi:X.N[i]? = some x:=by rfl)(hx:Loc X.env.scope x:=by first | exact Or.inl rfl | exact Or.inr rfl)
   (hf:X.fn x=true\/X.env.scope.names.lookup x=some .local:=by first | exact .inl rfl | exact .inr rfl | assumption)
   (hs:(assignEach (.Name x px::es) X.env).map (·.2)=assign (.Name x px) X.env::(assignEach es X.env).map (·.2):=by rfl):Names X (.Name x px::es) (i::is) (zri (zif i) t) :=
 .cons hN hi hx hf h (zqq (zgz hN hi hx hf) h.pgs hs)
def z3b(K:zFr)(dV:Value):Nat->Prop
 |0=>dV=.none
 |n+1=>∃(T:Addr) (o:Obj) (m:Nat),dV=.ref T/\K.lookup T=some o/\o.data=.seq (Array.replicate (n+1) Value.none) m
structure HasDef (K:zFr) (mg:zMg) (x:Str) (st:Stmt) (nd:Nat):Prop where
 ex:∃(f:Addr) (fd:FuncData) (dV:Value),FunD K x x st f fd dV/\mg x=some (.ref f)/\z3b K dV nd
structure HasMth (K:zFr) (mg:zMg) (c m qual:Str) (st:Stmt):Prop where
 ex:∃(C f:Addr) (fd:FuncData),FunD K m qual st f fd .none/\mg c=some (.ref C)/\Cls K C/\Meth K C m f
structure HasMk (K:zFr) (mg:zMg) (c qual:Str) (st:Stmt) (nd:Nat):Prop where
 ex:∃(C f:Addr) (fd:FuncData) (dV:Value),FunD K "__init__" qual st f fd dV/\mg c=some (.ref C)/\Mk K C f/\z3b K dV nd
def zv5(x qual:Str)(st:Stmt)(ps:List Str):Prop:=∀(kV doc pm:Value) (an:Option Addr) (cdv ct:Value) (us:List Value),us.length=ps.length ->
 bindArgs (PySem.W.fnOf x qual (zbv st) (xo st) (zg st) .none kV doc pm an cdv ct) ⟨us,[]⟩=pure (ps.zip us)
def z3d(x qual:Str)(st:Stmt)(ps:List Str)(n:Nat):Prop:=∀(T:Addr) (kV doc pm:Value) (an:Option Addr) (cdv ct:Value) (us:List Value),us.length=n ->
 ∃kk,bindArgs (PySem.W.fnOf x qual (zbv st) (xo st) (zg st) (.ref T) kV doc pm an cdv ct) ⟨us,[]⟩=(seqItems? (.ref T) >>= kk)/\kk (some #[Value.none])=pure (ps.zip (us++List.replicate (ps.length-n) Value.none))
section
variable {P:Program}{w:World}{K:zFr}{mg:zMg}{base:Heap}{x qual c m:Str}{st:Stmt}{N ps:List Str}{k:Nat}{b:C}{dV:Value}{f:Addr}{fd:FuncData}
abbrev z0l(P:Program)(w:World)(K:zFr)(mg:zMg)(base:Heap)(N:List Str)(qual:Str)(st:Stmt)(k:Nat)(b:C):Prop :=
 ∀(f:Addr) (cdv:Value) (A:Around) (outer:List Env) (s:Shared) (H:Hp) (E:XK),Room k (A.deeper (envOfC qual (zg st) s.heap.objs.size f cdv)) ->
     FSs (zfr CX0 P w K mg base N qual (zg st) f cdv A outer s H E).nox (xo st) b
theorem FunD.binds0(F:FunD K x qual st f fd .none)(h:zv5 x qual st ps):Binds K fd ps []:=by obtain⟨oc,od,kV,doc,pm,an,cdv,ct,osl,rfl,lk,hcd⟩:=F.ex;exact .all (h kV doc pm an cdv ct)
theorem FunD.binds1(F:FunD K x qual st f fd dV)(hd:z3b K dV 1){n:Nat}(h:z3d x qual st ps n)(hn:n<=ps.length):Binds K fd ps (List.replicate (ps.length-n) Value.none):=by obtain⟨oc,od,kV,doc,pm,an,cdv,ct,osl,rfl,lk,hcd⟩:=F.ex;obtain⟨T,o,mm,rfl,hT,ho⟩:=hd;intro s us hK hl;obtain⟨kk,h1,h2⟩:=h T kV doc pm an cdv ct us (by rw[z41,List.length_replicate]at hl;omega);exact BindsTo.of_defaults rfl (hK T o hT) ho h1 h2
theorem zka:∀n:Nat,Vals (List.replicate n V.non) (List.replicate n Value.none)
 |0=>.nil
 |n+1=>.cons rfl (zka n)
theorem znk{ρ H}:∀n:Nat,RepL K mg ρ H (List.replicate n D.non) (List.replicate n V.non)
 |0=>RepL.nil
 |n+1=>RepL.cons rfl (znk n)
theorem zvd:FnOk P w K mg base CX0 k f fd ps (spG K mg fun _ _=>none):=by
 have no:∀vs H Q E,¬ spG K mg (fun _ _=>none) vs H Q E:=fun vs H Q E h=>by obtain⟨_,_,_,_,_,_,_,h,_⟩:=h;cases h
 exact⟨fun vs H Q E h=>absurd h (no vs H Q E),fun A outer s H args us vs Q E _ _ _ _ h=>absurd h (no vs H Q E)⟩
theorem HasDef.cal(h:HasDef K mg x st 0)(S:FnScope N ps (zg st))(hb:zv5 x x st ps)(hbody:z0l P w K mg base N x st k b):Cal P w K mg base (k+1) x (zu N.length ps.length b):=by obtain⟨f,fd,dV,F,hm,rfl⟩:=h.ex;exact⟨f,fd,ps,[],[],[],_,F.ok S fun cdv A outer s H E hr=>hbody f cdv A outer s H E hr,hm,F.kp,F.binds0 hb,.nil,fun _ _=>RepL.nil,fun args S r e=>by rw[z5y];exact e⟩
theorem HasDef.none0(h:HasDef K mg x st 0)(hb:zv5 x x st ps):Cal P w K mg base k x (fun _ _=>none):=by obtain⟨f,fd,dV,F,hm,rfl⟩:=h.ex;exact⟨f,fd,ps,[],[],[],_,zvd,hm,F.kp,F.binds0 hb,.nil,fun _ _=>RepL.nil,fun args S r e=>by cases e⟩
theorem HasMth.mth(h:HasMth K mg c m qual st)(S:FnScope N ps (zg st))(hb:zv5 m qual st ps)(hbody:z0l P w K mg base N qual st k b):Mth P w K mg base (k+1) c m (zu N.length ps.length b):=by obtain⟨C,f,fd,F,hm,hc,hme⟩:=h.ex;exact⟨C,f,fd,ps,[],[],[],_,F.ok S fun cdv A outer s H E hr=>hbody f cdv A outer s H E hr,hm,hc,hme,F.binds0 hb,.nil,fun _ _=>RepL.nil,fun args S r e=>by rw[z5y];exact e⟩
theorem HasMk.mk0(h:HasMk K mg c qual st 0)(S:FnScope N ps (zg st))(hb:zv5 "__init__" qual st ps)(hbody:z0l P w K mg base N qual st k b):Mak P w K mg base (k+1) c (zu N.length ps.length b):=by obtain⟨C,f,fd,dV,F,hm,hme,rfl⟩:=h.ex;exact⟨C,f,fd,ps,[],[],[],_,F.ok S fun cdv A outer s H E hr=>hbody f cdv A outer s H E hr,hm,hme,F.binds0 hb,.nil,fun _ _=>RepL.nil,fun args S r e=>by rw[z5y];exact e⟩
theorem HasMk.mk1(h:HasMk K mg c qual st 1)(S:FnScope N ps (zg st))(hb:z3d "__init__" qual st ps ps.length)(hbody:z0l P w K mg base N qual st k b):Mak P w K mg base (k+1) c (zu N.length ps.length b):=by obtain⟨C,f,fd,dV,F,hm,hme,hd⟩:=h.ex;have B:=F.binds1 hd hb (z45 _);rw[Nat.sub_self]at B;exact⟨C,f,fd,ps,[],[],[],_,F.ok S fun cdv A outer s H E hr=>hbody f cdv A outer s H E hr,hm,hme,B,.nil,fun _ _=>RepL.nil,fun args S r e=>by rw[z5y];exact e⟩
theorem HasMk.mk1d(h:HasMk K mg c qual st 1)(S:FnScope N ps (zg st)){n:Nat}(hn:ps.length=n+1)(hb:z3d "__init__" qual st ps n)(hbody:z0l P w K mg base N qual st k b):Mak P w K mg base (k+1) c (zpx 1 (zu N.length ps.length b)):=by obtain⟨C,f,fd,dV,F,hm,hme,hd⟩:=h.ex;have B:=F.binds1 hd hb (by omega);rw[hn,z7n]at B;exact⟨C,f,fd,ps,_,_,_,_,F.ok S fun cdv A outer s H E hr=>hbody f cdv A outer s H E hr,hm,hme,B,zka 1,fun _ _=>znk 1,fun args S r e=>e⟩
end
section
variable {K:zFr}{h:Heap}{mg:zMg} (X:K.In h) (G:h.Ns mainGlobals mg)
include X G
theorem has_def{x:Str}{st:Stmt}{f:Addr}{oc:Value}{od an:Option Addr}{osl:Array (Option Value)}{kV doc pm cdv ct:Value}(a:PySem.W.nsIn K mainGlobals x=some (some (.ref f)))
   (l:K.lookup f=some ⟨oc,od,.func (PySem.W.fnOf x x (zbv st) (xo st) (zg st) .none kV doc pm an cdv ct),osl⟩) (c:PySem.W.codeIn K cdv x=true) (k:PySem.W.keepIn K (.ref f)=true):HasDef K mg x st 0 :=
 ⟨f,_,.none,⟨⟨oc,od,kV,doc,pm,an,cdv,ct,osl,rfl,l,c⟩,k⟩,z6x X G a,rfl⟩
theorem has_mth{cn m qual:Str}{st:Stmt}{C f:Addr}{oc:Value}{od an:Option Addr}{osl:Array (Option Value)}{kV doc pm cdv ct:Value}(aC:PySem.W.nsIn K mainGlobals cn=some (some (.ref C)))(hc:Cls K C)
   (a:PySem.W.findIn K (.ref C) m=some (some (.ref f))) (i:PySem.W.isFn K (.ref f)=true)
   (l:K.lookup f=some ⟨oc,od,.func (PySem.W.fnOf m qual (zbv st) (xo st) (zg st) .none kV doc pm an cdv ct),osl⟩) (c:PySem.W.codeIn K cdv qual=true) (k:PySem.W.keepIn K (.ref f)=true):HasMth K mg cn m qual st :=
 ⟨C,f,_,⟨⟨oc,od,kV,doc,pm,an,cdv,ct,osl,rfl,l,c⟩,k⟩,z6x X G aC,hc,⟨a,i,k⟩⟩
theorem has_mk{cn qual:Str}{st:Stmt}{C f:Addr}{oc:Value}{od an:Option Addr}{osl:Array (Option Value)}{kV doc pm cdv ct:Value}(aC:PySem.W.nsIn K mainGlobals cn=some (some (.ref C)))
   (mk:PySem.W.makesIn K C=true) (kc:PySem.W.keepIn K (.ref C)=true) (a:PySem.W.findIn K (.ref C) "__init__"=some (some (.ref f))) (i:PySem.W.isFn K (.ref f)=true)
   (l:K.lookup f=some ⟨oc,od,.func (PySem.W.fnOf "__init__" qual (zbv st) (xo st) (zg st) .none kV doc pm an cdv ct),osl⟩) (c:PySem.W.codeIn K cdv qual=true) (k:PySem.W.keepIn K (.ref f)=true):HasMk K mg cn qual st 0 :=
 ⟨C,f,_,.none,⟨⟨oc,od,kV,doc,pm,an,cdv,ct,osl,rfl,l,c⟩,k⟩,z6x X G aC,⟨mk,a,i,kc⟩,rfl⟩
theorem has_mk1{cn qual:Str}{st:Stmt}{C f T:Addr}{oc tc:Value}{od an td:Option Addr}{osl tsl:Array (Option Value)}{kV doc pm cdv ct:Value}{m:Nat}(aC:PySem.W.nsIn K mainGlobals cn=some (some (.ref C)))
   (mk:PySem.W.makesIn K C=true) (kc:PySem.W.keepIn K (.ref C)=true) (a:PySem.W.findIn K (.ref C) "__init__"=some (some (.ref f))) (i:PySem.W.isFn K (.ref f)=true)
   (l:K.lookup f=some ⟨oc,od,.func (PySem.W.fnOf "__init__" qual (zbv st) (xo st) (zg st) (.ref T) kV doc pm an cdv ct),osl⟩) (c:PySem.W.codeIn K cdv qual=true) (k:PySem.W.keepIn K (.ref f)=true)
   (t:K.lookup T=some ⟨tc,td,.seq #[Value.none] m,tsl⟩):HasMk K mg cn qual st 1 :=
 ⟨C,f,_,.ref T,⟨⟨oc,od,kV,doc,pm,an,cdv,ct,osl,rfl,l,c⟩,k⟩,z6x X G aC,⟨mk,a,i,kc⟩,T,_,m,rfl,t,rfl⟩
theorem has_cls{cn:Str}{C:Addr}(aC:PySem.W.nsIn K mainGlobals cn=some (some (.ref C)))(pg:PySem.W.plainGet K C Str.empty=true)(hd:PySem.W.hasDictIn K C=true)(po:PySem.W.plainOver K C=true)(sa:PySem.W.findIn K (.ref C) "__setattr__"=some (some (.builtin "object.__setattr__"))):Cls K C:=⟨pg,hd,po,sa⟩
theorem has_fld{cn n:Str}{C:Addr}(aC:PySem.W.nsIn K mainGlobals cn=some (some (.ref C)))(hc:Cls K C)(a:PySem.W.findIn K (.ref C) n=some none):Fld K mg cn n:=fun C' e=>by rw[z6x X G aC]at e;cases e;exact⟨hc,a⟩
theorem has_int{x:Str}{n:Int}{t:Tok}(a:PySem.W.nsIn K mainGlobals x=some (some (.int n t))):∃t,mg x=some (.int n t):=⟨t,z6x X G a⟩
end
def z0j(g:G):Prop:=∀ns:List Int,ns.length<=63->∃S,g [.lst (ns.map D.int)] []=some (.bl true,S)
theorem zkn{K mg ρ H}:∀ns:List Int,RepL K mg ρ H (ns.map D.int) (ns.map V.int)
 | []=>RepL.nil
 |_::ns=>RepL.cons rfl (zkn ns)
theorem law_walk{l:PySem.W.OpenLaw}{q:Program}{loose:List Str}{XP:(zMg)->Heap->Prop}{YP:World->Heap->Prop}{d:DefRec}{K:Params->zFr}{k:Nat}{g:G}{x:Str}(hn:l.most=some 63)(hdf:d.params.defaults=[])(hr:Room k callerA)
   (hY:∀(w:World) (h:Heap),YP w h->(K w.params).In h) (hg:z0j g)
   (F:∀(w:World) (mg:zMg) (fa:Addr) (h:Heap),(K w.params).In h->h.Ns mainGlobals mg->mg d.name=some (.ref fa) ->
     ∃fd:FuncData,(∀(s:Shared) (u:Value),BindsTo s fd ⟨[u],[]⟩ [(x,u)])/\∀base:Heap,(K w.params).In base->base.Ns mainGlobals mg->FnOk l.prog w (K w.params) mg base CX0 k fa fd [x] (spG (K w.params) mg g)) :
   PySem.W.WalkO q loose XP YP l.row.toRowW d [] (fun f vs=>PySem.call f vs):=by
 refine L2.walk_of (n:=63) (k:=k) (x:=x) (CX:=fun _=>CX0) (sp:=fun w vs H Q E=>∃a ns,vs=[.ref a]/\ns.length<=63/\z0z H/\SqL (K w.params) H a (ns.map V.int)/\∀H',Q (.bl true) H') hn (by decide) hdf hr hY (fun w mg fa h KX G hm=>?_) (fun w H a ns hl hO hS=>⟨a,ns,rfl,hl,hO,hS,fun _=>rfl⟩) fun _ _ _ _ _ z=>z;obtain⟨fd,hb,hF⟩:=F w mg fa h KX G hm;refine⟨fd,hb,fun base kb nb=>(hF base kb nb).imp fun vs H Q E hq=>?_⟩;obtain⟨a,ns,rfl,hl,hO,hS,k⟩:=hq;obtain⟨S,hS'⟩:=hg ns hl;refine⟨[],[.lst (ns.map D.int)],[],.bl true,S,?_,⟨rfl,z84,fun i m a e=>by simp at e⟩,hS',fun v ρ' H' _ _ r=>by rw[show v=.bl true from r];exact k H'⟩;refine RepL.cons ?_ RepL.nil;unfold Rep;refine⟨a,ns.map V.int,rfl,?_,zkn ns⟩;rcases hS with hS | hS
 · exact .inl ⟨by simp,hS⟩
 · exact .inr hS
def zvf:List D->Option (List V)
 | []=>some []
 |d::ds=>(zfa d).bind fun v=>(zvf ds).map fun r=>v::r
def zv9:D->D->Option D
 | a,.tup ds=>(match zfa a,zvf ds with
   |some x,some xs=>some (.bl (inV x xs))
   |_,_=>none)
 |_,_=>none
section
variable {X:Cx}{K:zFr}{mg:zMg}
theorem zih{ρ H}:∀{ds:List D}{xs vs:List V},zvf ds=some xs->RepL K mg ρ H ds vs->vs=xs/\xs.all zc1=true
 | [],_,_,e,r=>by cases e;unfold RepL at r;exact⟨r,rfl⟩
 | d::ds,_,_,e,r=>by unfold RepL at r;obtain⟨v,r',rfl,r1,r2⟩:=r;obtain⟨x,q1,e⟩:=z5 e;obtain⟨xs,q2,e⟩:=zcc e;subst e;obtain⟨rfl,f1⟩:=xp q1 r1;obtain⟨rfl,f2⟩:=zih q2 r2;exact⟨rfl,by rw[List.all_cons,f1,f2];rfl⟩
theorem zw3:zi8 K mg (rIn K false) (fun _=>zv9):=by
 intro ρ H S x y dx dy d Q hS rx ry e k;dsimp only at e;unfold zv9 at e;split at e
 · rename_i ds;split at e
   · rename_i fx fs h1 h2;cases e;obtain⟨rfl,f1⟩:=xp h1 rx;obtain⟨p,vs,rfl,t,r⟩:=ry.refT;obtain⟨rfl,f2⟩:=zih h2 r;exact⟨p,_,rfl,.inr t.sq,f1,f2,k _ H (Ext.refl _ _) hS rfl⟩
   · cases e
 · cases e
theorem z2r{a b:Expr}{f g:E}{pos:Pos}(ha:FE X a f)(hb:FE X b g)(hm:behindInMarks .In b=false:=by rfl):FB X (.Compare a [.In] [b] pos) (bE (e2 zv9 f g)):=zcd zn0 zw3 ha hb hm
end
def zbu(op op':D->D->Option D)(f g h:E):E:=fun ev S=>(f ev S).bind fun p=>(g ev p.2).bind fun q=>(op p.1 q.1).bind fun z=>match z with
 | .bl true=>(h ev q.2).bind fun r=>(op' q.1 r.1).map fun d=>(d,r.2)
 | .bl false=>some (.bl false,q.2)
 |_=>none
theorem ls1{P:List Value->Prop}(h:∀a0,P [a0])(us:List Value)(hl:us.length=1):P us:=match us,hl with
 | [a0],_=>h a0
theorem ls2{P:List Value->Prop}(h:∀a0 a1,P [a0,a1])(us:List Value)(hl:us.length=2):P us:=match us,hl with
 | [a0,a1],_=>h a0 a1
theorem ls3{P:List Value->Prop}(h:∀a0 a1 a2,P [a0,a1,a2])(us:List Value)(hl:us.length=3):P us:=match us,hl with
 | [a0,a1,a2],_=>h a0 a1 a2
theorem ls4{P:List Value->Prop}(h:∀a0 a1 a2 a3,P [a0,a1,a2,a3])(us:List Value)(hl:us.length=4):P us:=match us,hl with
 | [a0,a1,a2,a3],_=>h a0 a1 a2 a3
theorem ls5{P:List Value->Prop}(h:∀a0 a1 a2 a3 a4,P [a0,a1,a2,a3,a4])(us:List Value)(hl:us.length=5):P us:=match us,hl with
 | [a0,a1,a2,a3,a4],_=>h a0 a1 a2 a3 a4
theorem ls6{P:List Value->Prop}(h:∀a0 a1 a2 a3 a4 a5,P [a0,a1,a2,a3,a4,a5])(us:List Value)(hl:us.length=6):P us:=match us,hl with
 | [a0,a1,a2,a3,a4,a5],_=>h a0 a1 a2 a3 a4 a5
def zhd(op op' op2:D->D->Option D)(f g h i:E):E:=fun ev S=>(f ev S).bind fun p=>(g ev p.2).bind fun q=>(op p.1 q.1).bind fun z=>match z with
 | .bl true=>(h ev q.2).bind fun r=>(op' q.1 r.1).bind fun z=>(match z with
   | .bl true=>(i ev r.2).bind fun t=>(op2 r.1 t.1).map fun d=>(d,t.2)
   | .bl false=>some (.bl false,r.2)
   |_=>none)
 | .bl false=>some (.bl false,q.2)
 |_=>none
section
variable {X:Cx}{e:Expr}{es:List Expr}{f:E}{g:As}{p pos:Pos}
theorem zmv{R R':R2}{op op':D->D->Option D}{f g h:E}{σ:L2.St}{H:Hp}{Q:VK}(hs:zi8 X.K X.mg R fun _=>op)(hs':zi8 X.K X.mg R' fun _=>op')(h0:tE X.K X.mg (zbu op op' f g h) σ H Q):zr9 R R' (tE X.K X.mg f) (tE X.K X.mg g) (tE X.K X.mg h) σ H Q:=by
 obtain⟨ρ,ev,S,d,S',hE,hS,hf,k⟩:=h0;obtain⟨⟨x,S1⟩,q1,hf⟩:=z5 hf;obtain⟨⟨y,S2⟩,q2,hf⟩:=z5 hf;obtain⟨z,q3,hf⟩:=z5 hf;refine⟨ρ,ev,S,x,S1,hE,hS,q1,fun v ρ1 H1 E1 hS1 r1=>⟨ρ1,ev,S1,y,S2,hE.mono E1,hS1,q2,fun u ρ2 H2 E2 hS2 r2=>?_⟩⟩;refine hs ρ2 H2 _ v u x y z _ hS2 (r1.mono E2) r2 q3 fun w H3 E3 hS3 r3=>?_;dsimp only at hf;split at hf
 · obtain⟨⟨t,S4⟩,q4,hf⟩:=z5 hf;obtain⟨dd,q5,hf⟩:=zcc hf;cases hf;refine⟨true,r3,ρ2,ev,S2,t,S4,((hE.mono E1).mono E2).mono E3,hS3,q4,fun tv ρ4 H4 E4 hS4 r4=>?_⟩;exact hs' ρ4 H4 _ u tv y t _ _ hS4 ((r2.mono E3).mono E4) r4 q5 fun w' H5 E5 hS5 r5=>k w' ρ4 H5 ((((E1.trans E2).trans E3).trans E4).trans E5) hS5 r5
 · cases hf;exact⟨false,r3,k _ ρ2 H3 ((E1.trans E2).trans E3) hS3 rfl⟩
 · cases hf
theorem zvl{a b c:Expr}{f g h:E}{pos:Pos}(ha:FE X a f)(hb:FE X b g)(hc:FE X c h)(hm:lastMarks [.LtE,.Lt] [b,c]=false:=by with_unfolding_all rfl):FB X (.Compare a [.LtE,.Lt] [b,c] pos) (bE (zbu zfv zai f g h)) :=
 zdh (zko zlw zny ha hb hc hm) fun _ _ _ h=>zp4 (fun _ h=>zmv zap zap h) h
def ztf(r r' r2:R2)(ta tb tc td:TE):TE:=fun σ H Q=>ta σ H fun x H1=>tb σ H1 fun y H2=>r x y H2 fun z H3=>∃k,z=.bl k /\
 (if k=true then tc σ H3 fun w H4=>r' y w H4 fun z' H5=>∃k',z'=.bl k'/\(if k'=true then td σ H5 fun u H6=>r2 w u H6 Q else Q (.bl false) H5)else Q (.bl false) H3)
theorem znq{a b c d:Expr}{ta tb tc td:TE}{op op' op2:CmpOp}{r r' r3:R2}(ho:OpR X (compareOp op) r)(ho':OpR X (compareOp op') r')(ho2:OpR X (compareOp op2) r3)(ha:PE X a ta)(hb:PE X b tb)(hc:PE X c tc)(hd:PE X d td)
   (hm:lastMarks [op,op',op2] [b,c,d]=false:=by with_unfolding_all rfl):PT X (.Compare a [op,op',op2] [b,c,d] pos) (zp5 (ztf r r' r3 ta tb tc td)):=by
 intro pins s σ H Q I h;refine isTrue_chain (thn (ha pins s σ H _ I h) fun v s1 ⟨x,H1,I1,r1,q1⟩=>test_link (thn (hb pins s1 σ H1 _ I1 q1) fun u s2 ⟨y,H2,I2,r2,q2⟩=>
   thn (ho pins s2 σ H2 x y v u _ I2 r1 r2 q2) fun d s3 ⟨z,H3,I3,r3,k,e,q3⟩=>?_)) hm
 subst e;cases r3;refine z6i ?_;cases k with
 | false=>
   obtain⟨k',e',q'⟩:=q3;cases e';exact ite_ff ⟨H3,I3,q'⟩
 | true=>
   refine ite_tt (test_link (thn (hc pins s3 σ H3 _ I3 q3) fun w' s4 ⟨z',H4,I4,r4,q4⟩=>thn (ho' pins s4 σ H4 y z' u w' _ I4 r2 r4 q4) fun d' s5 ⟨z2,H5,I5,r5,k2,e2,q5⟩=>?_));subst e2;cases r5;refine z6i ?_;cases k2 with
   | false=>
     obtain⟨k',e',q'⟩:=q5;cases e';exact ite_ff ⟨H5,I5,q'⟩
   | true=>
     refine ite_tt (test_last (thn (hd pins s5 σ H5 _ I5 q5) fun w2 s6 ⟨z6,H6,I6,r6,q6⟩=>thn (ho2 pins s6 σ H6 z' z6 w' w2 _ I6 r4 r6 q6) fun d6 s7 ⟨z7,H7,I7,r7,k7,e7,q7⟩=>?_));subst e7;cases r7;exact z6i ⟨H7,I7,q7⟩
theorem zox{a b c d:Expr}{f g h i:E}{pos:Pos}(ha:FE X a f)(hb:FE X b g)(hc:FE X c h)(hd:FE X d i)(hm:lastMarks [.LtE,.LtE,.LtE] [b,c,d]=false:=by with_unfolding_all rfl):FB X (.Compare a [.LtE,.LtE,.LtE] [b,c,d] pos) (bE (zhd zfv zfv zfv f g h i)) :=
 zdh (znq zlw zlw zlw ha hb hc hd hm) fun σ H Q h=>zp4 (fun Q h0=>by
   obtain⟨ρ,ev,S,d,S',hE,hS,hf,k⟩:=h0;obtain⟨⟨x,S1⟩,q1,hf⟩:=z5 hf;obtain⟨⟨y,S2⟩,q2,hf⟩:=z5 hf;obtain⟨z,q3,hf⟩:=z5 hf;refine⟨ρ,ev,S,x,S1,hE,hS,q1,fun v ρ1 H1 E1 hS1 r1=>⟨ρ1,ev,S1,y,S2,hE.mono E1,hS1,q2,fun u ρ2 H2 E2 hS2 r2=>?_⟩⟩;refine zap ρ2 H2 _ v u x y z _ hS2 (r1.mono E2) r2 q3 fun w H3 E3 hS3 r3=>?_;dsimp only at hf;split at hf
   · obtain⟨⟨t,S4⟩,q4,hf⟩:=z5 hf;obtain⟨dd,q5,hf⟩:=z5 hf;refine⟨true,r3,ρ2,ev,S2,t,S4,((hE.mono E1).mono E2).mono E3,hS3,q4,fun tv ρ4 H4 E4 hS4 r4=>?_⟩;refine zap ρ4 H4 _ u tv y t _ _ hS4 ((r2.mono E3).mono E4) r4 q5 fun w' H5 E5 hS5 r5=>?_;split at hf
     · obtain⟨⟨t6,S6⟩,q6,hf⟩:=z5 hf;obtain⟨d7,q7,hf⟩:=zcc hf;cases hf;refine⟨true,r5,ρ4,ev,S4,t6,S6,((((hE.mono E1).mono E2).mono E3).mono E4).mono E5,hS5,q6,fun tv6 ρ6 H6 E6 hS6 r6=>?_⟩;exact zap ρ6 H6 _ tv tv6 t t6 _ _ hS6 ((r4.mono E5).mono E6) r6 q7 fun w7 H7 E7 hS7 r7=>k w7 ρ6 H7 ((((((E1.trans E2).trans E3).trans E4).trans E5).trans E6).trans E7) hS7 r7
     · cases hf;exact⟨false,r5,k _ ρ4 H5 ((((E1.trans E2).trans E3).trans E4).trans E5) hS5 rfl⟩
     · cases hf
   · cases hf;exact⟨false,r3,k _ ρ2 H3 ((E1.trans E2).trans E3) hS3 rfl⟩
   · cases hf) h
end
mutual
def bnd(n:Nat):D->Bool
 | .obj i=>decide (i<n)
 | .tup ds=>bndL n ds
 | .lst ds=>bndL n ds
 | .clo _ ds=>bndL n ds
 |_=>true
def bndL(n:Nat):List D->Bool
 | []=>true
 |d::ds=>bnd n d&&bndL n ds
end
def zhy(n:Nat):MO->Bool
 | .lst ds=>bndL n ds
 | .ins _ fs=>bndL n (fs.map (·.2))
 | .dct kvs=>bndL n (kvs.map (·.2))
 | .exc _=>true
 | .tab _ _=>true
 | .xd _ d=>bnd n d
 | .xc _ j=>decide (j<n)
def frz(g:G):G:=fun ds S=>(g ds S).bind fun r=>if(r.2.take S.length).all (zhy S.length)=true then (match r.1 with
 | .obj i=>if i<S.length then some (.obj i,r.2.take S.length)else (match r.2[i]? with
   |some (.lst us)=>if bndL S.length us=true then some (.lst us,r.2.take S.length)else none
   |_=>none)
 |d=>if bnd S.length d=true then some (d,r.2.take S.length)else none)else none
section
variable {K:zFr}{mg:zMg}{ρ ρ':List Addr}{H H':Hp}{S S1:Sto}{n:Nat}
theorem TupAt.cut{p:Addr}{vs:List V}(h:TupAt K ρ H p vs):TupAt K (ρ.take n) H p vs:=h.imp (fun⟨a,b⟩=>⟨fun z=>a (z53 z),b⟩) id
theorem LstAt.cut{p:Addr}{vs:List V}(h:LstAt K ρ H p vs):LstAt K (ρ.take n) H p vs:=h.imp (fun⟨a,b⟩=>⟨fun z=>a (z53 z),b⟩) id
theorem Cells.cut:∀{xs:List Str}{us:List V}{cl:zLA},Cells ρ H xs us cl->Cells (ρ.take n) H xs us cl
 | [],[],[],_=>trivial
 |x::xs,u::us,p::cl,h=>⟨h.1,fun z=>h.2.1 (z53 z),h.2.2.1,Cells.cut h.2.2.2⟩
 | [],[],_::_,h=>h.elim
 | [],_::_,_,h=>h.elim
 |_::_,[],_,h=>h.elim
 |_::_,_::_,[],h=>h.elim
mutual
theorem Rep.cut:∀{d:D}{v:V},bnd n d=true->Rep K mg ρ H d v->Rep K mg (ρ.take n) H d v
 | .non,_,_,h=>h
 | .bl _,_,_,h=>h
 | .int _,_,_,h=>h
 | .str _,_,_,h=>h
 | .fn _,_,_,h=>h
 | .ty _,_,_,h=>h
 | .tup ds,_,hb,h=>by unfold Rep at h ⊢;unfold bnd at hb;obtain⟨p,vs,e1,t,r⟩:=h;exact⟨p,vs,e1,t.cut,RepL.cut hb r⟩
 | .lst ds,_,hb,h=>by unfold Rep at h ⊢;unfold bnd at hb;obtain⟨p,vs,e1,t,r⟩:=h;exact⟨p,vs,e1,t.cut,RepL.cut hb r⟩
 | .obj i,_,hb,h=>by unfold Rep at h ⊢;unfold bnd at hb;obtain⟨a,e1,e2⟩:=h;exact⟨a,e1,by rw[z6q (z67 hb)];exact e2⟩
 | .lam t,_,_,h=>by unfold Rep at h ⊢;obtain⟨a,e1,n1,c,pm,ct,n2,h1,h2⟩:=h;exact⟨a,e1,fun z=>n1 (z53 z),c,pm,ct,fun z=>n2 (z53 z),h1,h2⟩
 | .clo t vs,_,hb,h=>by unfold Rep at h ⊢;unfold bnd at hb;obtain⟨a,us,e1,⟨n1,c,pm,ct,cl,n2,h1,h2,h3,h4⟩,r⟩:=h;exact⟨a,us,e1,⟨fun z=>n1 (z53 z),c,pm,ct,cl,fun z=>n2 (z53 z),h1,h2,h3,h4.cut⟩,RepL.cut hb r⟩
theorem RepL.cut:∀{ds:List D}{vs:List V},bndL n ds=true->RepL K mg ρ H ds vs->RepL K mg (ρ.take n) H ds vs
 | [],_,_,h=>h
 | d::ds,_,hb,h=>by unfold RepL at h ⊢;unfold bndL at hb;obtain⟨v,r,e,h1,h2⟩:=h;obtain⟨b1,b2⟩:=z75.mp hb;exact⟨v,r,e,Rep.cut b1 h1,RepL.cut b2 h2⟩
end
theorem MOk.cut{a:Addr}{m:MO}(hb:zhy n m=true)(h:MOk K mg ρ H a m):MOk K mg (ρ.take n) H a m:=by
 cases m with
 |lst ds=>obtain⟨vs,h1,h2⟩:=h;exact⟨vs,h1,h2.cut hb⟩
 |ins c fs=>obtain⟨C,dx,vs,h0,h1,h2,h3⟩:=h;exact⟨C,dx,vs,h0,h1,h2,h3.cut hb⟩
 |dct kvs=>obtain⟨vs,h1,h2,h3⟩:=h;exact⟨vs,h1,h2,h3.cut hb⟩
 |exc c=>exact h
 |tab x q=>obtain⟨h0,ps,h1,h2,h3⟩:=h;exact⟨h0,ps,h1,h2,fun pos cv z=>let⟨c,z1,z2,z3⟩:=h3 pos cv z;⟨c,z1,fun y=>z2 (z53 y),z3⟩⟩
 |xd x d=>obtain⟨v,h1,h2⟩:=h;exact⟨v,h1,h2.cut hb⟩
 |xc c j=>obtain⟨C,dx,h1,h2,h3⟩:=h;exact⟨C,dx,h1,by rw[z6q (z67 hb)];exact h2,h3⟩
theorem StOk.cut(hS:StOk K mg ρ H S)(hb:(S.take n).all (zhy n)=true):StOk K mg (ρ.take n) H (S.take n):=by
 refine⟨by rw[z5g,z5g,hS.len],hS.nd.sublist (List.take_sublist _ _),fun i m a e1 e2=>?_⟩;have hi:i<n:=by have:=(z4y.mp e1).1;rw[z5g]at this;omega
 have hm:m∈S.take n:=z60 e1;rw[z6q hi]at e1 e2;exact(hS.ob i m a e1 e2).cut (z51.mp hb m hm)
theorem Ext.cut(e:Ext ρ H ρ' H')(hn:ρ.length=n):Ext ρ H (ρ'.take n) H' :=
 ⟨fun i a h=>by rw[z6q (by rw[<-hn];exact(z4y.mp h).1)];exact e.pre i a h,e.keep,fun b hb=>e.new b (z53 hb)⟩
theorem zzd{g:G}(vs:List V)(H:Hp)(Q:VK)(E:XK)(h:spG K mg (frz g) vs H Q E):spG K mg g vs H Q E:=by
 obtain⟨ρ,ds,S,d,S',hr,hS,hf,k⟩:=h;obtain⟨⟨d1,S1⟩,q1,hf⟩:=z5 hf;refine⟨ρ,ds,S,d1,S1,hr,hS,q1,fun v ρ' H' E1 hS1 r1=>?_⟩;dsimp only at hf;split at hf
 · rename_i hb;have e0:=E1.cut hS.len;have s0:=hS1.cut hb;split at hf
   · rename_i i;split at hf
     · rename_i hi;cases hf;exact k v _ H' e0 s0 (r1.cut (by unfold bnd;exact z49 hi))
     · rename_i hi;split at hf
       · rename_i us eu;split at hf
         · rename_i hu;cases hf;unfold Rep at r1;obtain⟨a,rfl,ea⟩:=r1;obtain⟨ws,m1,m2⟩:=hS1.ob i _ a eu ea;refine k _ _ H' e0 s0 ?_;unfold Rep;refine⟨a,ws,rfl,.inl ⟨fun z=>?_,.inl m1⟩,m2.cut hu⟩;obtain⟨j,hj,ej⟩:=List.getElem_of_mem z;rw[z5g]at hj;rw[List.getElem_take]at ej;have hj2:j<ρ'.length:=by omega
           have e3:ρ'[j]? = ρ'[i]?:=by rw[ea,z44 hj2,ej]
           have:=(z8m hj2 hS1.nd).mp e3;omega
         · cases hf
       · cases hf
   · split at hf
     · rename_i hd;cases hf;exact k v _ H' e0 s0 (r1.cut hd)
     · cases hf
 · cases hf
end
theorem Cal.frz{P:Program}{w:World}{K:zFr}{mg:zMg}{base:Heap}{k:Nat}{x:Str}{g:G}(c:Cal P w K mg base k x g):Cal P w K mg base k x (frz g):=by obtain⟨f,fd,ps,ds,dvs,dds,gg,FF,hm,hk,hb,hd,hdd,hg⟩:=c.ex;refine⟨f,fd,ps,ds,dvs,dds,_root_.F.frz gg,FnOk.imp FF zzd,hm,hk,hb,hd,hdd,fun args S r e=>?_⟩;obtain⟨r0,q,e⟩:=z5 e;show(gg (args++dds) S).bind _=_;rw[hg args S r0 q];exact e
end F
namespace F
open PySem L2 PySem.Spec PyProof.Rows
def zpb(c:B)(g:E)(fr:Ev):List D->Sto->Option (List D×Sto)
 | [],S=>some ([],S)
 |d::ds,S=>(c (some d::fr) S).bind fun p=>if p.1=true then (g (some d::fr) p.2).bind fun q=>(zpb c g fr ds q.2).bind fun r=>some (q.1::r.1,r.2)else zpb c g fr ds p.2
def zmf:B:=fun _ S=>some (true,S)
inductive FT (X:Cx):List Expr->B->Prop
 |nil:FT X [] zmf
 |one {e:Expr}{u:B}:FB X e u->FT X [e] u
section
variable {X:Cx}{pins:zAO}{σ:L2.St}{H:Hp}{s:Shared}{scope:Scope}{x:Str}{N':List Str}{fr:List Nat}
theorem zy9{ifs:List Expr}{c:B}(h:FT X ifs c){Q:Bool->Hp->Prop}(I:Inv X pins σ H s)(t:tB X.K X.mg c σ H Q) :
   wpAny (model X.prog X.w) X.A (forIn ifs true fun c r=>if r=true then do let ok <-isTrue c X.env (eval c X.env);pure (ForInStep.yield ok)else pure (ForInStep.yield r)) (TP X pins σ Q) X.xe s:=by
 cases h with
 | nil=>
   obtain⟨ρ,ev,S,b,S',hE,hS,hf,k⟩:=t;cases hf;exact wpAny_tests_nil ⟨H,I,k ρ H (Ext.refl _ _) hS⟩
 |one h=>exact wpAny_tests_one (h pins s σ H Q I t)
end
section
variable {K:zFr}{mg:zMg}{ρ:List Addr}{H:Hp}{S:Sto}
variable {X:Cx}{a b e o i:Expr}{f g h:E}{pos:Pos}
theorem RepL.dropLast{ds:List D}{vs:List V}(r:RepL K mg ρ H ds vs):RepL K mg ρ H ds.dropLast vs.dropLast:=by rw[List.dropLast_eq_take,List.dropLast_eq_take,<-r.length];exact r.take _
end
structure Fly (h₀ h:Heap) (H:Hp) (a C:Addr) (dx:Option Addr):Prop where
 new:h₀.get? a=none
 un:H a=none
 tr:∃oe vs T oT ts,h.get? a=some oe/\oe.cls=.ref C/\oe.dict=dx/\oe.data=.fields vs/\vs[1]? = some (.ref T)/\h₀.get? T=none/\H T=none/\T≠a/\h.get? T=some oT/\oT.data=.fields ts/\ts[3]? = some .none
structure Born (h₀ h:Heap) (H:Hp) (a C:Addr) (dx:Option Addr):Prop where
 new:h₀.get? a=none
 un:H a=none
 tr:∃oe vs,h.get? a=some oe/\oe.cls=.ref C/\oe.dict=dx/\oe.data=.fields vs/\vs[1]? = some .none
def zl7:Option Addr->Value
 |none=>.none
 |some d=>.ref d
structure Lft (fs:List Addr) (h₀:Heap) (H:Hp) (a C:Addr) (h h':Heap):Prop where
 keep:∀b o,h.get? b=some o->b∉fs->(∃o',h₀.get? b=some o')\/(∃u,H b=some u)->h'.get? b=some o
 slot:∀b o,h.get? b=some o->b∈fs->∃sl,h'.get? b=some { o with slots:=sl }
theorem none_of{h₀ h:Heap}{b:Addr}(k:∀b o,h₀.get? b=some o->∃o',h.get? b=some o')(e:h.get? b=none):h₀.get? b=none:=by
 cases q:h₀.get? b with
 |none=>rfl
 |some o=>obtain⟨o',z⟩:=k b o q;rw[e]at z;cases z
theorem zq0{H:Hp}{h:Heap}{b:Addr}(k:∀b u,H b=some u->∃o,h.get? b=some o)(e:h.get? b=none):H b=none:=by
 cases q:H b with
 |none=>rfl
 |some o=>obtain⟨o',z⟩:=k b o q;rw[e]at z;cases z
section
variable {M:Model}{A:Around}{E:zVP}{s:Shared}
theorem zk7(o:Obj)(f):(Obj.mapFields f o).dict=o.dict:=by obtain⟨c,d,dt,sl⟩:=o;cases dt<;>rfl
theorem zkr{h base:Heap}{l:List Env}{a:Addr}{o:Obj}{vs:Array Value}(st:h.FunFrames base l)(ea:h.get? a=some o)(da:o.data=.fields vs):a∉frs l:=fun m=>by obtain⟨_,o2,e2,n⟩:=st.mem m;rw[ea]at e2;cases e2;exact n vs da
theorem zh6{base:Heap}{env:Env}{outer:List Env}{L a:Addr}{oe:Obj}{vs:Array Value}{hd:Value}{bb:Bool}{Q:Unit->Shared->Prop}
   (fr:A.frames=some (env::outer)) (st:s.heap.FunFrames base (env::outer)) (fl:env.frame=some L) (ea:s.heap.get? a=some oe) (da:oe.data=.fields vs) (lt:1<vs.size)
   (q:∀h' T oT ts,s.heap.get? T=none->T≠a->(∀b o,s.heap.get? b=some o->b≠a->b∉frs (env::outer)->h'.get? b=some o)->(∀b o,s.heap.get? b=some o->b≠a->∃sl,h'.get? b=some { o with slots:=sl }) ->
     h'.get? a=some (Obj.mapFields (·.setIfInBounds 1 (.ref T)) oe)->h'.get? T=some oT->oT.data=.fields ts->ts[3]? = some .none->Q () { s with heap:=h' }) :
   wpAny M A (do
     let x <-frameOf env
     let pl <-entryPlaceOf L bb
     let y <-EntryCells.newEntry hd x .none (rawInt L) .none pl
     setField (.ref a) 1 y) (fun _ s'=>wpAny M A (setFlight (.ref a) none) Q E s') E s:=by
 have na:=zkr st ea da;refine z40 (wpAny_frameOf_fun fr st fl fun g so=>z40 (wpAny_entryPlaceOf fun pl hp=>?_));unfold EntryCells.newEntry newFields;refine z40 (z62 ?_ (hp.sizeOk5 _ _ _ _ _));have e1:g.get? a=some oe:=(so.2.1 a na).trans ea;generalize hOT:({ cls:=.type "traceback",dict:=none,data:=.fields ([hd,.ref L,.none,rawInt L,.none]++(if pl.isEmpty then List.replicate 6 Value.none else pl)).toArray }:Obj)=OT;have dT:OT.data=.fields ([hd,.ref L,.none,rawInt L,.none]++(if pl.isEmpty then List.replicate 6 Value.none else pl)).toArray:=by rw[<-hOT]
 have fT:OT.isFreed=false:=z6y dT;have t3:3<([hd,.ref L,.none,rawInt L,.none]++(if pl.isEmpty then List.replicate 6 Value.none else pl)).toArray.size:=by simp only[z46,z41,List.length_cons,List.length_nil];omega
 have e2:=z42 OT e1;have ne:g.objs.size≠a:=z8g (z5c e1);refine z8l e2 da lt ?_;have d3:=z6c da (·.setIfInBounds 1 (Value.ref g.objs.size));have e3:=z52 (Obj.mapFields (·.setIfInBounds 1 (Value.ref g.objs.size))) e2 (z6y d3);have eT:=(z5q (g.push OT) (Obj.mapFields (·.setIfInBounds 1 (Value.ref g.objs.size))) (z5x ne)).trans (z5u g fT);have f1:(vs.setIfInBounds 1 (Value.ref g.objs.size))[1]? = some (.ref g.objs.size):=by simp[lt]
 unfold setFlight;refine z40 (z7d e3 d3 f1 ?_);rw[z5o (by simp)];refine z8l eT dT t3 ?_;refine q _ g.objs.size _ _ ?_ ne (fun b o eb nb nf=>?_) (fun b o eb nb=>?_) ?_ (z52 _ eT (z6y (z6c dT _))) (z6c dT _) ?_
 · refine z6f ?_;rw[so.1];exact z45 _
 · have eg:g.get? b=some o:=(so.2.1 b nf).trans eb;rw[z5q _ _ (z8g (z5c eg)),z5q _ _ (z5x nb)];exact z42 _ eg
 · obtain⟨sl,eg⟩:=so.2.2 b o eb;refine⟨sl,?_⟩;rw[z5q _ _ (z8g (z5c eg)),z5q _ _ (z5x nb)];exact z42 _ eg
 · rw[z5q _ _ ne];exact e3
 · simp[t3]
theorem zf9{base h₀:Heap}{H:Hp}{env:Env}{outer:List Env}{L a C:Addr}{dx:Option Addr}{Q:Unit->Shared->Prop}(hfr:A.frames=some (env::outer))(hl:s.heap.FunFrames base (env::outer))(hf:env.frame=some L)(fl:Fly h₀ s.heap H a C dx)
   (hH:∀b u,H b=some u->∃o,s.heap.get? b=some o) (h0:∀b o,h₀.get? b=some o->∃o',s.heap.get? b=some o')
   (h:∀h',Fly h₀ h' H a C dx->Lft (frs (env::outer)) h₀ H a C s.heap h'->h'.FunFrames base (env::outer)->Q () { s with heap:=h' }):wpAny M A (leaving env (.ref a)) Q E s:=by
 obtain⟨oe,vs,T,oT,ts,ea,ca,xa,da,v1,nT0,nTH,nTa,eT,dT,t3⟩:=fl.tr;have l3:3<ts.size:=(z57.mp t3).1;unfold leaving noteFrame;simp only[hf];refine z40 (z40 (z7d ea da v1 ?_));rw[z5o (by simp)];refine z40 (z7d eT dT t3 ?_);rw[z5l (by simp[rawInt])];refine z40 (z8l eT dT l3 ?_);have oth:∀b,b≠T->(s.heap.update T (Obj.mapFields (·.setIfInBounds 3 Value.none))).get? b=s.heap.get? b:=fun b hb=>z5q _ _ (z5x hb);have nfT:=zkr hl eT dT;have st2:(s.heap.update T (Obj.mapFields (·.setIfInBounds 3 Value.none))).FunFrames base (env::outer):=hl.of_keeps fun b o e hnf=>⟨o,(oth b fun z=>by subst z;rw[eT]at e;cases e;exact hnf _ dT).trans e,rfl⟩
 refine zh6 (s:={ s with heap:=s.heap.update T (Obj.mapFields (·.setIfInBounds 3 Value.none)) }) hfr st2 hf ((oth a (z5x nTa)).trans ea) da (z57.mp v1).1 fun h' T' oT' ts' n1 n2 k1 k2 ea' eT' dT' t3'=>?_;have nT':s.heap.get? T'=none:=by
   by_cases z:T'=T
   · subst z;have y:(s.heap.update T' (Obj.mapFields (·.setIfInBounds 3 Value.none))).get? T'=some _:=z52 _ eT (z6y (z6c dT _));rw[show(s.heap.update T' (Obj.mapFields (·.setIfInBounds 3 Value.none))).get? T'=none from n1]at y;cases y
   · rw[<-oth T' z];exact n1
 refine h h' ⟨fl.new,fl.un,_,_,T',oT',ts',ea',(Obj.cls_mapFields _ _).trans ca,(zk7 _ _).trans xa,z6c da _,by simp[(z57.mp v1).1],none_of h0 nT',zq0 hH nT',n2,eT',dT',t3'⟩ ⟨fun b o e nb hb=>?_,fun b o e hb=>?_⟩ (hl.of_keeps fun b o e hnf=>?_)
 · have na:b≠a:=fun z=>by
     subst z;rcases hb with⟨_,hb⟩ | ⟨_,hb⟩
     · rw[fl.new]at hb;cases hb
     · rw[fl.un]at hb;cases hb
   have nT:b≠T:=fun z=>by
     subst z;rcases hb with⟨_,hb⟩ | ⟨_,hb⟩
     · rw[nT0]at hb;cases hb
     · rw[nTH]at hb;cases hb
   exact k1 b o ((oth b nT).trans e) na nb
 · have na:b≠a:=fun z=>zkr hl ea da (z▸hb);have nT:b≠T:=fun z=>nfT (z▸hb);exact k2 b o ((oth b nT).trans e) na
 · have na:b≠a:=fun z=>by subst z;rw[ea]at e;cases e;exact hnf _ da
   have nT:b≠T:=fun z=>by subst z;rw[eT]at e;cases e;exact hnf _ dT
   obtain⟨sl,e'⟩:=k2 b o ((oth b nT).trans e) na;exact⟨_,e',rfl⟩
theorem ze2{base h₀:Heap}{H:Hp}{env:Env}{outer:List Env}{L a C:Addr}{dx:Option Addr}{Q:Unit->Shared->Prop}(hfr:A.frames=some (env::outer))(hl:s.heap.FunFrames base (env::outer))(hf:env.frame=some L)(bn:Born h₀ s.heap H a C dx)
   (hH:∀b u,H b=some u->∃o,s.heap.get? b=some o) (h0:∀b o,h₀.get? b=some o->∃o',s.heap.get? b=some o')
   (h:∀h',Fly h₀ h' H a C dx->Lft (frs (env::outer)) h₀ H a C s.heap h'->h'.FunFrames base (env::outer)->Q () { s with heap:=h' }):wpAny M A (leaving env (.ref a)) Q E s:=by
 obtain⟨oe,vs,ea,ca,xa,da,v1⟩:=bn.tr;unfold leaving noteFrame;simp only[hf];refine z40 (z40 (z7d ea da v1 ?_));rw[z5l (by decide)];refine zh6 hfr hl hf ea da (z57.mp v1).1 fun h' T' oT' ts' nT' n2 k1 k2 ea' eT' dT' t3'=>?_;refine h h' ⟨bn.new,bn.un,_,_,T',oT',ts',ea',(Obj.cls_mapFields _ _).trans ca,(zk7 _ _).trans xa,z6c da _,by simp[(z57.mp v1).1],none_of h0 nT',zq0 hH nT',n2,eT',dT',t3'⟩ ⟨fun b o e nb hb=>?_,fun b o e hb=>?_⟩ (hl.of_keeps fun b o e hnf=>?_)
 · refine k1 b o e (fun z=>?_) nb;subst z;rcases hb with⟨_,hb⟩ | ⟨_,hb⟩
   · rw[bn.new]at hb;cases hb
   · rw[bn.un]at hb;cases hb
 · exact k2 b o e fun z=>zkr hl ea da (z▸hb)
 · obtain⟨sl,e'⟩:=k2 b o e fun z=>by subst z;rw[ea]at e;cases e;exact hnf _ da
   exact⟨_,e',rfl⟩
end
def CX1(P:Program)(w:World):CXT:=fun outer H s E e s'=>
 ∃a C dx H',e=.ref a/\s'.os=s.os/\AllBare s'.gens/\Un (frs outer) [] H H' s.heap s'.heap/\HOk P w H' s'.heap/\Fly s.heap s'.heap H' a C dx/\E (zl7 dx) (some C) H'
section
variable {X:Cx}{pins:zAO}{σ:L2.St}{H:Hp}{s:Shared}
theorem Fly.back{h₀ h₁ h:Heap}{a C:Addr}{dx:Option Addr}(f:Fly h₁ h H a C dx)(k:∀b o,h₀.get? b=some o->∃o',h₁.get? b=some o'):Fly h₀ h H a C dx:=by obtain⟨oe,vs,T,oT,ts,r1,r2,r2',r3,r4,r5,r6⟩:=f.tr;exact⟨none_of k f.new,f.un,oe,vs,T,oT,ts,r1,r2,r2',r3,r4,none_of k r5,r6⟩
theorem Born.back{h₀ h₁ h:Heap}{a C:Addr}{dx:Option Addr}(f:Born h₁ h H a C dx)(k:∀b o,h₀.get? b=some o->∃o',h₁.get? b=some o'):Born h₀ h H a C dx:=⟨none_of k f.new,f.un,f.tr⟩
theorem zmp{fs:List Addr}{H₀:Hp}{L a C:Addr}{h₀ h h':Heap}(u:Un fs [] H₀ H h₀ h)(l:Lft (L::fs) h₀ H a C h h')(hL:h₀.get? L=none):Un fs [] H₀ H h₀ h' where
 keep:=fun b o e n nb hx=>l.keep b o (u.keep b o e n nb hx) (fun z=>(z5z.mp z).elim (fun z=>by rw[z,hL]at e;cases e) nb) (.inl ⟨_,e⟩)
 slot:=fun b o e n nb hx=>by obtain⟨sl,q⟩:=u.slot b o e n nb hx;obtain⟨sl',q'⟩:=l.slot b _ q (z5d _ nb);exact⟨sl',q'⟩
 free:=u.free
 there:=fun b o e hx=>by
   obtain⟨o',q⟩:=u.there b o e hx;by_cases z:b∈L::fs
   · obtain⟨sl,q'⟩:=l.slot b _ q z;exact⟨_,q'⟩
   · exact⟨_,l.keep b _ q z (.inl ⟨_,e⟩)⟩
 tups:=u.tups
 frzs:=u.frzs
 tbls:=u.tbls
theorem zb5{P:Program}{w:World}{h:Heap}{a:Addr}{o:HO}(x:ObjOk P w H h a o):∃q,h.get? a=some q:=by
 cases o with
 |lst xs=>obtain⟨_,_,_,_,e⟩:=x;exact⟨_,e⟩
 |tup xs=>obtain⟨_,_,_,p⟩:=x;obtain⟨o,e,_⟩:=p;exact⟨_,e⟩
 |dK kvs=>obtain⟨_,_,_,_,o,_,_,e,_⟩:=x;exact⟨_,e⟩
 |dT kvs=>obtain⟨_,_,_,_,o,_,_,e,_⟩:=x;exact⟨_,e⟩
 |set S n=>obtain⟨o,_,_,_,e,_⟩:=x;exact⟨_,e⟩
 |ins C dx fs=>obtain⟨_,_,_,e,_⟩:=x;exact⟨_,e⟩
 |own y=>obtain⟨_,e⟩:=x;exact⟨_,e⟩
 |xd fs=>obtain⟨_,⟨_,_,_,e,_⟩,_⟩:=x;exact⟨_,e⟩
 |rng lo hi=>obtain⟨_,_,_,e⟩:=x;exact⟨_,e⟩
 |frz ob u=>obtain⟨e,_⟩:=x;exact⟨_,e⟩
 |tbl ps=>exact⟨_,(show h.get? a=some _ from x)⟩
 |met f y=>exact⟨_,(show h.get? a=some _ from x)⟩
 |ext φ=>obtain⟨_,⟨_,e⟩,_⟩:=x;exact⟨_,e⟩
theorem zcz{P:Program}{w:World}{fs:List Addr}{a C:Addr}{h₀ h h':Heap}(ok:HOk P w H h)(l:Lft fs h₀ H a C h h')(hf:∀b∈fs,H b=none):HOk P w H h':=fun b u e=>
 (ok b u e).stay (fun c v hc r=>by
   have ht:∃z,H c=some z:=by
     rcases hc with rfl | hc
     · exact⟨_,e⟩
     · exact⟨_,hc⟩
   obtain⟨z,hz⟩:=ht;exact l.keep c v r (fun m=>by rw[hf c m]at hz;cases hz) (.inr ⟨z,hz⟩)) (fun c r=>r) fun c xs r=>r
theorem zs7{P:Program}{w:World}{K:zFr}{mg:zMg}{base:Heap}{N:List Str}{qual:Str}{scope:Scope}{f:Addr}{cd:Value}{A:Around}{outer:List Env}{s₀:Shared}{H₀:Hp}{E:XK}{a C:Addr}{dx:Option Addr}
   (I:Inv (zfr (CX1 P w) P w K mg base N qual scope f cd A outer s₀ H₀ E) pins σ H s) (fl:Fly s₀.heap s.heap H a C dx) (hE:E (zl7 dx) (some C) H):(zfr (CX1 P w) P w K mg base N qual scope f cd A outer s₀ H₀ E).xe (.ref a) s:=by
 have hfs:∀b∈frs (envOfC qual scope s₀.heap.objs.size f cd::outer),H b=none:=I.stkFree;refine zf9 (base:=base) (h₀:=s₀.heap) (H:=H) (L:=s₀.heap.objs.size) I.ok.frames I.stack rfl fl (fun b u e=>zb5 (I.hok b u e)) (fun b o e=>I.base.there b o e (by show b∉([]:List Addr);simp)) fun h' f1 l1 _=>?_;have l2:Lft (s₀.heap.objs.size::frs outer) s₀.heap H a C s.heap h':=l1;exact⟨a,C,dx,H,rfl,I.os,I.bare,zmp I.base l2 (z6f (z45 _)),zcz I.hok l1 hfs,f1,hE⟩
theorem zpz{P:Program}{w:World}{K:zFr}{mg:zMg}{base:Heap}{N:List Str}{qual:Str}{scope:Scope}{f:Addr}{cd:Value}{A:Around}{outer:List Env}{s₀:Shared}{H₀:Hp}{E:XK}{a C:Addr}{dx:Option Addr}
   (I:Inv (zfr (CX1 P w) P w K mg base N qual scope f cd A outer s₀ H₀ E) pins σ H s) (bn:Born s₀.heap s.heap H a C dx) (hE:E (zl7 dx) (some C) H):(zfr (CX1 P w) P w K mg base N qual scope f cd A outer s₀ H₀ E).xe (.ref a) s:=by
 have hfs:∀b∈frs (envOfC qual scope s₀.heap.objs.size f cd::outer),H b=none:=I.stkFree;refine ze2 (base:=base) (h₀:=s₀.heap) (H:=H) (L:=s₀.heap.objs.size) I.ok.frames I.stack rfl bn (fun b u e=>zb5 (I.hok b u e)) (fun b o e=>I.base.there b o e (by show b∉([]:List Addr);simp)) fun h' f1 l1 _=>?_;have l2:Lft (s₀.heap.objs.size::frs outer) s₀.heap H a C s.heap h':=l1;exact⟨a,C,dx,H,rfl,I.os,I.bare,zmp I.base l2 (z6f (z45 _)),zcz I.hok l1 hfs,f1,hE⟩
theorem z1u{P:Program}{w:World}{K:zFr}{mg:zMg}{base:Heap}{N:List Str}{qual:Str}{scope:Scope}{f:Addr}{cd:Value}{A:Around}{outer:List Env}{s₀:Shared}{H₀:Hp}{E:XK} :
   zdc (CX1 P w) (zfr (CX1 P w) P w K mg base N qual scope f cd A outer s₀ H₀ E) E:=fun pins σ H s e s' I h=>by
 obtain⟨a,C,dx,H',rfl,os,bare,un,hok,fl,hE⟩:=h;have I1:Inv (zfr (CX1 P w) P w K mg base N qual scope f cd A outer s₀ H₀ E) pins σ H' s':=I.call' os un hok bare fun b hb=>absurd hb (by simp);exact zs7 I1 (fl.back fun b o e=>I.base.there b o e (by show b∉([]:List Addr);simp)) hE
end
def z0i(c:Str)(S:Sto)(ρ:List Addr)(e:Value):Prop:=c="Changed"->∃a n d,e=.ref a/\ρ.getLast? = some a/\S.getLast? = some (.xd n d)
abbrev R:=Ev->Sto->Option (Str×Sto)
def zt9(c:C)(r:R):R:=fun ev S=>(c ev S).bind fun p=>match p.1 with
 | .nx e=>r e p.2
 |_=>none
def rIf(u:B)(a b:R):R:=fun ev S=>(u ev S).bind fun p=>if p.1=true then a ev p.2 else b ev p.2
def zno:R:=fun _ _=>none
section
variable (K:zFr) (mg:zMg)
def tR(r:R)(σ:L2.St)(H:Hp)(E:XK):Prop:=∃ρ ev S c S',EnvR K mg ρ H ev σ/\StOk K mg ρ H S/\r ev S=some (c,S')/\∃C,mg c=some (.ref C)/\∀e ρ' H',Ext ρ H ρ' H'->StOk K mg ρ' H' S'->z0i c S' ρ' e->E e (some C) H'
end
def rOr(a b:R):R:=fun ev S=>(a ev S).or (b ev S)
theorem zwo{K mg}{r1 r2:R}{σ:L2.St}{H:Hp}{E:XK}(h:tR K mg (rOr r1 r2) σ H E):tR K mg r1 σ H E\/tR K mg r2 σ H E:=by
 obtain⟨ρ,ev,S,c,S',hE,hS,hf,k⟩:=h;unfold rOr at hf;cases q:r1 ev S with
 |none=>rw[q]at hf;exact .inr ⟨ρ,ev,S,c,S',hE,hS,hf,k⟩
 |some p=>rw[q]at hf;cases hf;exact .inl ⟨ρ,ev,S,c,S',hE,hS,q,k⟩
structure XE (X:Cx) (pins:zAO) (σ:L2.St) (E:XK):Prop where
 first:∀{H s a C dx H' s'},Inv X pins σ H s->s'.os=s.os->AllBare s'.gens->Un (frs X.stack) [] H H' s.heap s'.heap->HOk X.prog X.w H' s'.heap->Born s.heap s'.heap H' a C dx->E (zl7 dx) (some C) H'->X.xe (.ref a) s'
 pass:∀{H s e s'},Inv X pins σ H s->CX1 X.prog X.w X.stack H s E e s'->X.xe e s'
def RS(X:Cx)(st:Stmt)(r:R):Prop:=∀(pins:zAO) (s:Shared) (σ:L2.St) (H:Hp) (E:XK) (Q:Flow->Shared->Prop),XE X pins σ E->Inv X pins σ H s->tR X.K X.mg r σ H E->wpAny (model X.prog X.w) X.A (exec st X.env) Q X.xe s
def RSs(X:Cx)(sts:List Stmt)(r:R):Prop:=∀(pins:zAO) (s:Shared) (σ:L2.St) (H:Hp) (E:XK) (Q:Flow->Shared->Prop),(∀σ,XE X pins σ E)->Inv X pins σ H s->tR X.K X.mg r σ H E->wpAny (model X.prog X.w) X.A (execs sts X.env) Q X.xe s
def RTs(X:Cx)(sts:List Stmt)(r:R):Prop:=∀(pins:zAO) (s:Shared) (σ:L2.St) (H:Hp) (E:XK) (Q:Flow->Shared->Prop),XE X pins σ E->Inv X pins σ H s->tR X.K X.mg r σ H E->wpAny (model X.prog X.w) X.A (execs sts X.env) Q X.xe s
def RE(X:Cx)(e:Expr)(r:R):Prop:=∀(pins:zAO) (s:Shared) (σ:L2.St) (H:Hp) (E:XK) (Q:zVP),XE X pins σ E->Inv X pins σ H s->tR X.K X.mg r σ H E->wpAny (model X.prog X.w) X.A (eval e X.env) Q X.xe s
section
variable {X:Cx}{st:Stmt}{rest a b:List Stmt}{c:C}{u:B}{r r':R}{e:Expr}{es:List Expr}{pos p:Pos}
theorem zb3(h:RS X st r):RSs X (st::rest) r:=fun pins s σ H E Q hx I t=>z6r (h pins s σ H E _ (hx σ) I t)
theorem zgu(h:RS X st r):RTs X (st::rest) r:=fun pins s σ H E Q hx I t=>z6r (h pins s σ H E _ hx I t)
theorem zxf{r1 r2:R}(h1:RSs X rest r1)(h2:RSs X rest r2):RSs X rest (rOr r1 r2):=fun pins s σ H E Q hx I t=>by
 rcases zwo t with t | t
 · exact h1 pins s σ H E Q hx I t
 · exact h2 pins s σ H E Q hx I t
theorem zed(h1:FS X st c)(h2:RSs X rest r):RSs X (st::rest) (zt9 c r):=by
 intro pins s σ H E Q hx I t;obtain⟨ρ,ev,S,nm,S',hE,hS,hf,C,hC,k⟩:=t;obtain⟨⟨o,S1⟩,q1,hf⟩:=z5 hf;cases o with
 | nx e1=>
   refine z6r (thn (h1 pins s σ H { nx:=fun σ' H'=>tR X.K X.mg r σ' H' E,rt:=fun _ _=>False,bk:=fun _ _=>False,ct:=fun _ _=>False } I ⟨ρ,ev,S,.nx e1,S1,hE,hS,q1,fun σ' ρ' H' E1 hS1 hE1=>⟨ρ',e1,S1,nm,S',hE1,hS1,hf,C,hC,fun e ρ2 H2 E2 hS2=>k e ρ2 H2 (E1.trans E2) hS2⟩⟩) fun f s1 q=>?_);cases f with
   | next=>
     obtain⟨σ',H',I',q⟩:=q;exact h2 pins s1 σ' H' E Q hx I' q
   |ret v=>obtain⟨_,_,_,_,_,q⟩:=q;exact q.elim
   |brk=>obtain⟨_,_,_,q⟩:=q;exact q.elim
   |cont=>obtain⟨_,_,_,q⟩:=q;exact q.elim
 |_=>cases hf
theorem z1h{cc:Expr}(hc:FB X cc u)(ha:RTs X a r)(hb:RTs X b r'):RS X (.If cc a b pos) (rIf u r r'):=by
 intro pins s σ H E Q hx I t;obtain⟨ρ,ev,S,nm,S',hE,hS,hf,C,hC,k⟩:=t;obtain⟨⟨d,S1⟩,q1,hf⟩:=z5 hf;refine wpAny_If (thn (hc pins s σ H (fun d' H1=>d'=d/\∃ρ1,Ext ρ H ρ1 H1/\StOk X.K X.mg ρ1 H1 S1) I ⟨ρ,ev,S,d,S1,hE,hS,q1,fun ρ1 H1 E1 hS1=>⟨rfl,ρ1,E1,hS1⟩⟩) fun d' s1 ⟨H1,I1,ed,ρ1,E1,hS1⟩=>?_);subst ed;cases d' with
 |true=>exact ha pins s1 σ H1 E Q hx I1 ⟨ρ1,ev,S1,nm,S',hE.mono E1,hS1,hf,C,hC,fun e ρ2 H2 E2 hS2=>k e ρ2 H2 (E1.trans E2) hS2⟩
 |false=>exact hb pins s1 σ H1 E Q hx I1 ⟨ρ1,ev,S1,nm,S',hE.mono E1,hS1,hf,C,hC,fun e ρ2 H2 E2 hS2=>k e ρ2 H2 (E1.trans E2) hS2⟩
theorem zkl{cc:Expr}(hc:FB X cc u)(ha:RSs X a r)(hb:RSs X b r'):RSs X (.If cc a b pos::rest) (rIf u r r'):=by
 intro pins s σ H E Q hx I t;obtain⟨ρ,ev,S,nm,S',hE,hS,hf,C,hC,k⟩:=t;obtain⟨⟨d,S1⟩,q1,hf⟩:=z5 hf;refine z6r (wpAny_If (thn (hc pins s σ H (fun d' H1=>d'=d/\∃ρ1,Ext ρ H ρ1 H1/\StOk X.K X.mg ρ1 H1 S1) I ⟨ρ,ev,S,d,S1,hE,hS,q1,fun ρ1 H1 E1 hS1=>⟨rfl,ρ1,E1,hS1⟩⟩) fun d' s1 ⟨H1,I1,ed,ρ1,E1,hS1⟩=>?_));subst ed;cases d' with
 |true=>exact ha pins s1 σ H1 E _ hx I1 ⟨ρ1,ev,S1,nm,S',hE.mono E1,hS1,hf,C,hC,fun e ρ2 H2 E2 hS2=>k e ρ2 H2 (E1.trans E2) hS2⟩
 |false=>exact hb pins s1 σ H1 E _ hx I1 ⟨ρ1,ev,S1,nm,S',hE.mono E1,hS1,hf,C,hC,fun e ρ2 H2 E2 hS2=>k e ρ2 H2 (E1.trans E2) hS2⟩
theorem zec:RSs X rest zno:=fun pins s σ H E Q hx I t=>by obtain⟨ρ,ev,S,nm,S',hE,hS,hf,_⟩:=t;cases hf
end
abbrev GR:=List D->Sto->Option (Str×Sto)
def spR(K:zFr)(mg:zMg)(rr:GR):Sp:=fun vs H _ E=>∃ρ ds S c S',RepL K mg ρ H ds vs/\StOk K mg ρ H S/\rr ds S=some (c,S')/\∃C,mg c=some (.ref C)/\∀e ρ' H',Ext ρ H ρ' H'->StOk K mg ρ' H' S'->z0i c S' ρ' e->E e (some C) H'
theorem z4c{X:Cx}{CX:CXT}{k:Nat}{f:Addr}{fd:FuncData}{ps:List Str}{sp:Sp}{dvs:List V}{ds:List Value}{E:XK}{pins:zAO}{σ:L2.St}{H:Hp}{s:Shared}{Q:VK}{us:List Value}{vs:List V}
   (F:FnOk X.prog X.w X.K X.mg X.base CX k f fd ps sp) (hr:Room k X.A) (hb:Binds X.K fd ps ds) (hd:Vals dvs ds) (I:Inv X pins σ H s) (hx:∀e s',CX X.stack H s E e s'->X.xe e s') (r:Vals vs us) (h:sp (vs++dvs) H Q E) :
   wpAny (model X.prog X.w) X.A (call (.ref f) us) (EP X pins σ Q) X.xe s:=by
 have r2:=r.append hd;have hl:(us++ds).length=ps.length:=r2.length.symm.trans (F.len _ _ _ _ h);refine z77 (z7x (F.run X.A X.stack s H ⟨us,[]⟩ _ _ Q E hr I.env0 (hb s us I.kIn hl) r2 h) fun r s' hq=>?_)
 match r,hq with
 | .error e,hq=>exact hx e s' hq
 | .ok (.ret u),hq=>exact I.after hq
 | .ok .next,hq=>exact hq.elim
 | .ok .brk,hq=>exact hq.elim
 | .ok .cont,hq=>exact hq.elim
def zfn(N n:Nat)(r:R):GR:=fun ds S=>if ds.length=n then r (ds.map some++List.replicate (N-ds.length) none) S else none
theorem z00{P:Program}{w:World}{K:zFr}{mg:zMg}{base:Heap}{N:List Str}{qual:Str}{scope:Scope}{f:Addr}{cd:Value}{A:Around}{outer:List Env}{s₀:Shared}{H₀:Hp}{E:XK} :
   ∀pins σ,XE (zfr (CX1 P w) P w K mg base N qual scope f cd A outer s₀ H₀ E) pins σ E:=fun _ _=>⟨fun I os bare un hok bn hE=>zpz (I.call' os un hok bare fun b hb=>absurd hb (by simp)) (bn.back fun b o e=>I.base.there b o e (by show b∉([]:List Addr);simp)) hE,fun I h=>z1u _ _ _ _ _ _ I h⟩
theorem FunD.rok{P:Program}{w:World}{K:zFr}{mg:zMg}{base:Heap}{x qual:Str}{st:Stmt}{f:Addr}{fd:FuncData}{dV:Value}{N ps:List Str}{k:Nat}{r:R}(F:FunD K x qual st f fd dV)(S:FnScope N ps (zg st))
   (hbody:∀(cdv:Value) (A:Around) (outer:List Env) (s:Shared) (H:Hp) (E:XK),Room k (A.deeper (envOfC qual (zg st) s.heap.objs.size f cdv)) ->
     RSs (zfr (CX1 P w) P w K mg base N qual (zg st) f cdv A outer s H E) (xo st) r):FnOk P w K mg base (CX1 P w) (k+1) f fd ps (spR K mg (zfn N.length ps.length r)):=by
 obtain⟨oc,od,kV,doc,pm,an,cdv,ct,osl,rfl,lk,hcd⟩:=F.ex;refine zvc lk hcd S (fun vs H Q E h=>?_) fun A outer s H vs Q E hr hsp=>?_
 · obtain⟨ρ,ds,S,c,S',r1,hS,hf,k⟩:=h;unfold zfn at hf;split at hf
   · rename_i hl;rw[<-r1.length];exact hl
   · cases hf
 · refine⟨fun _ σ' H'=>tR K mg r σ' H' E,fun pins s1 σ1 H1 D I t=>hbody cdv A outer s H E hr pins s1 σ1 H1 E _ (z00 pins) I t,?_⟩;obtain⟨ρ,ds,S,c,S',r1,hS,hf,kk⟩:=hsp;unfold zfn at hf;split at hf
   · rename_i hl;have hs:=EnvR.start (N:=N) r1;exact⟨ρ,_,S,c,S',hs,hS,hf,kk⟩
   · cases hf
section
variable {X:Cx}{e:Expr}{pos pos':Pos}{r:R}{x:Str}
theorem zkm(he:RE X e r)(hs:swapsWith e (some (.Name x pos')) pos.line X.env=pure false:=by rfl):RS X (.Assign [.Name x pos'] e pos) r:=fun pins s σ H E Q hx I t=>wpAny_Assign_Name (he pins s σ H E _ hx I t) hs
end
structure RMth (P:Program) (w:World) (K:zFr) (mg:zMg) (base:Heap) (k:Nat) (c m:Str) (g:GR):Prop where
 ex:∃(C f:Addr) (fd:FuncData) (ps:List Str) (ds:List Value) (dvs:List V) (dds:List D) (gg:GR),FnOk P w K mg base (CX1 P w) k f fd ps (spR K mg gg)/\mg c=some (.ref C)/\Cls K C/\Meth K C m f /\
   Binds K fd ps ds/\Vals dvs ds/\(∀ρ H,RepL K mg ρ H dds dvs)/\∀args S r,g args S=some r->gg (args++dds) S=some r
def zch(c m:Str)(g:GR)(f:E)(a:As):R:=fun ev S=>(f ev S).bind fun p=>(yo c p.2 p.1).bind fun q=>if q.2.lookup m=none then (a ev p.2).bind fun z=>g (.obj q.1::z.1) z.2 else none
def ExcCls(K:zFr)(mg:zMg)(c:Str):Prop :=
 ∃(C N:Addr) (nm q:Str) (bs bm bmB:List Value) (hdct:Bool) (sn:List Str) (sub:List Value) (ab:Bool) (col:Option Bool) (dd:Option Addr) (k0 k1 k2 k3 k5:Option Value) (B newId initId:String) (mN:zMg),
   mg c=some (.ref C)/\ExcBaseFacts B newId initId bmB/\bm.contains (.type "BaseException")=true/\mN "__init__"=none /\
   ∀h:Heap,K.In h->h.get? C=some (excClassObj nm q C N bs bm hdct sn sub ab col dd k0 k1 k2 k3 k5 newId)/\h.Ns N mN/\OwnTail h bmB bm
def zf6(c:Str)(a:As):R:=fun ev S=>(a ev S).bind fun q=>if q.1.length<=sizeLine then some (c,q.2)else none
section
variable {X:Cx}{e:Expr}{es:List Expr}{a:As}{c:Str}{np cpos pos:Pos}
theorem zgv(hc:ExcCls X.K X.mg c)(ha:FA X (e::es) a)(hg:Gl X c:=by rfl)(he:starEach (e::es) X.env=(false,eval e X.env)::starEach es X.env:=by exact qm rfl)(hcm:X.calm=true:=by rfl)(hdb:(c==("__debug__":Str))=false:=by decide)(hpl:(backTo cpos (starEach (e::es) X.env)).any (·.1)=false:=by exact jy rfl)(hne:c≠"Changed":=by decide) :
   RS X (.Raise (some (.Call (.Name c np) (e::es) [] cpos)) none pos) (zf6 c a):=by
 obtain⟨C,N,nm,q,bs,bm,bmB,hdct,sn,sub,ab,col,dd,k0,k1,k2,k3,k5,B,newId,initId,mN,hm,F,hb,hi,hk⟩:=hc;intro pins s σ H E Q hx I t;obtain⟨ρ,ev,S,nm',S',hE,hS,hf,CC,hC,kk⟩:=t;obtain⟨⟨ws,S1⟩,q1,hf1⟩:=z5 hf;dsimp only at hf1;split at hf1
 · rename_i hl;cases hf1;rw[hm]at hC;cases hC;refine wpAny_Raise_call_subT (nm:=nm) (q:=q) (N:=N) (bs:=bs) (hdct:=hdct) (sn:=sn) (sub:=sub) (ab:=ab) (col:=col) (dd:=dd) (k0:=k0) (k1:=k1) (k2:=k2) (k3:=k3) (k5:=k5) F hb (I.ok.hd hcm) hpl hi (zak I hg hm ⟨rfl,?_⟩ hdb);have hA:=ha cpos pins s σ H (fun vs H1=>vs.length<=sizeLine/\∃ρ1,Ext ρ H ρ1 H1/\StOk X.K X.mg ρ1 H1 S') I ⟨ρ,ev,S,ws,S',hE,hS,q1,fun vs ρ1 H1 E1 hS1 r1=>⟨by rw[<-r1.length];exact hl,ρ1,E1,hS1⟩⟩;rw[he]at hA ⊢;refine z74 (thn hA fun us s2 ⟨vs,H2,I2,r2,lv,ρ1,E1,hS1⟩=>?_);obtain⟨z1,z2,z3⟩:=hk s2.heap I2.kIn;exact⟨rfl,by show us.length<=_;rw[<-r2.length];exact lv,z1,z2,z3,fun h' e mk=>by
     have I3:=I2.kept (t':=s2.toks) mk.keeps;obtain⟨t,he',_⟩:=mk.there;exact hx.first I2 rfl I2.bare (Un.kept mk.keeps) I3.hok ⟨mk.new,zq0 (fun b u q=>zb5 (I2.hok b u q)) mk.new,_,_,he',rfl,rfl,rfl,rfl⟩ (kk _ ρ1 H2 E1 hS1 fun z=>absurd z hne)⟩
 · cases hf1
end
end F
namespace F
open PySem L2 PySem.Spec PySem.Calls PyProof.Rows PySem.W
section
variable {prog:Program}{w:World}{A:Around}{E:zVP}{s:Shared}{K:zFr}{x D:Addr}
structure ExcIs (K:zFr) (D:Addr):Prop where
 ga:findIn K (.ref D) "__getattribute__"=some (some (.builtin "BaseException.__getattribute__"))
 gn:findIn K (.ref D) "__getattr__"=some none
 ha:findIn K (.ref D) "__class__"=some (some (.builtin "object.__class__"))
 hn:specialIn K (.builtin "object.__class__") "__get__"=some (some (.builtin "getset_descriptor.__get__"))
 htk:takesIn K (.builtin "object.__class__")=some true
 hm:mroIn K D (.type "object")=some true
 hb:mroIn K D (.type "BaseException")=some true
 cl:(clsIn K D).isSome=true
def OfCls(x D:Addr)(h:Heap):Prop:=∃o,h.get? x=some o/\o.cls=.ref D
theorem OfCls.type{M:Model}{h:Heap}(I:OfCls x D h):Looks M h (typeOf (.ref x)) (.ref D):=by obtain⟨o,h1,h2⟩:=I;have L:=(Looks.ld (M:=M) (part:=some headPart) h1).andThen (f:=fun o=>pure o.cls) (b:=o.cls) .now;rw[h2]at L;exact L
theorem zoy{M:Model}{nameV:Value}{Q:Unit->Shared->Prop}(X:K.In s.heap)(I:OfCls x D s.heap)(Z:ExcIs K D)(hq:Q () s) :
   wpAny M A (checkBuiltinCall "BaseException.__getattribute__" ⟨[.ref x,nameV],[]⟩) Q E s:=by
 have hk:(builtinKind "BaseException.__getattribute__")=some .slot:=by decide +kernel
 have hsplit:(splitId "BaseException.__getattribute__")=some ("BaseException", "__getattribute__"):=by decide +kernel
 have ha:=PySem.F.args_bexc_ga (.ref x) nameV;have LI:Looks M s.heap (isInstance (.ref x) (.type "BaseException")) true:=(I.type (M:=M)).andThen (looks_mroIn (M:=M) X Z.hb);simp only[checkBuiltinCall,hk,hsplit];refine z40 (LI.at ?_)
 repeat (any_goals (first | assumption | wp_step))
end
theorem zgb{α:Type}{q:α->Bool}:∀(l:List α) (i:Nat) (x:α),l[i]? = some x->q x=false->(l.eraseIdx i).find? q=l.find? q
 | [],_,_,h,_=>by simp at h
 | a::l,0,x,h,hq=>by simp at h;subst h;simp[List.find?_cons,hq]
 | a::l,i+1,x,h,hq=>by rw[List.eraseIdx_cons_succ,List.find?_cons,List.find?_cons,zgb l i x (by simpa using h) hq]
theorem zrd{v:Value}{x y:Str}(h:v.isStr x=true)(n:y≠x):v.isStr y=false:=by
 cases v with
 | str z t=>
   have e:z=x:=by simpa [Value.isStr] using h
   subst e;simpa [Value.isStr] using fun e=>n e.symm
 |_=>cases h
section
variable {M:Model}{A:Around}{E:zVP}{s:Shared}
theorem zzw{a:Addr}{m:zMg}{name:Str}{u:Value}{Q:Bool->Shared->Prop}(hn:s.heap.Ns a m)(hu:m name=some u)
   (hQ:∀h' m',h'.Ns a m'->(∀y,y≠name->m' y=m y)->Heap.SameBut a s.heap h'->Q true { s with heap:=h' }):wpAny M A (nsDel a name) Q E s:=by
 obtain⟨o,es,ep,ho,hd,hk,hm⟩:=id hn;obtain⟨cl,d,dt,sl⟩:=o;subst hd;cases hi:es.findIdx? (·.key.isStr name) with
 | none=>
   have z:=hm name;rw[hu]at z;unfold nsFind at z;rw[findBy_of_findIdx?,hi]at z;cases z
 | some i=>
   have hq:es.any (·.key.isStr name)=true:=by obtain⟨hlt,hp,_⟩:=z7g.mp hi;exact Array.any_eq_true.mpr ⟨i,hlt,hp⟩
   have hhas:nsHas name ⟨cl,d,.dict es ep,sl⟩=pure true:=by rw[nsHas_eq];unfold nsHasByArray;simp only[hq,z64]
   unfold nsDel;refine z40 (z8j ho ?_);rw[hhas];refine z40 (z5e (z40 (wpAny_updatePart ho (z5e ?_))));refine hQ _ (fun y=>nsFind (es.eraseIdxIfInBounds i) y) ⟨_,_,ep+1,z52 _ ho ?_,?_,hk.erase i,fun _=>rfl⟩ (fun y hy=>?_) (Heap.SameBut.update ..)
   · simp only[Obj.dropName_eq,Obj.dropNameByArray,hi];rfl
   · simp only[Obj.dropName_eq,Obj.dropNameByArray,hi]
   · obtain⟨hlt,hp,_⟩:=z7g.mp hi;rw[<-hm y];unfold nsFind findBy;refine z6w (Option.map _) ?_;obtain⟨l⟩:=es;have hl:i<l.length:=by simpa using hlt
     rw[Array.eraseIdxIfInBounds,dif_pos (by simpa using hl)];have e:=zgb (q:=fun e:DictEntry=>e.key.isStr y) l i l[i] (z44 hl) (zrd (by simpa using hp) hy);simpa using e
end
section
variable {X:Cx}{pins:zAO}{σ:L2.St}{H:Hp}{s:Shared}
theorem zor{M:Model}{A:Around}{E:zVP}{i:Nat}{x:Str}{pos:Pos}{Q:Unit->Shared->Prop}(I:Inv X pins σ H s)(hN:X.N.Nodup)(hi:X.N[i]? = some x)(hx:X.env.scope.names.lookup x=some .local)
   (h:∀s',Inv X pins (σ.set i none) H s'->Q () s'):wpAny M A (do bindName X.env x .none;unbindBehindTheSuite X.env x pos) Q E s:=by
 refine z40 (wpAny_bindName (zd9 I hN hi (.inl hx) (show RelV .non .none from rfl) (fun s1 I1=>?_) (.inr hx)));have hcls:(X.env.scope.kind==.class||(X.env.scope.kind==.module&&X.env.locals != X.env.globals))=false:=by rw[I.ok.kind];rfl
 have hk:X.env.kindOf x=some .local:=hx;have hiσ:i<σ.length:=by rw[I.len];exact(z4y.mp hi).1
 obtain⟨m,hn,hl⟩:=id I1.loc;obtain⟨u,_,lk⟩:=hl i x .non hi (by rw[z5m hiσ]) (.inl hx);have hu:m x=some u:=by
   rcases lk with⟨_,e⟩ | ⟨k,_⟩
   · exact e
   · rw[hk]at k;rcases k with k | k<;>cases k
 unfold unbindBehindTheSuite;refine wpAny_onRaise ?_;unfold unbindName deleteName;refine z40 (wpAny_point (z40 ?_));simp only[hk,hcls];rw[z5l (by decide)];refine z40 (zzw hn hu fun h2 m2 hn2 hm2 hs=>?_);simp only[Bool.not_true,z59,z69];refine z5e (wpAny_point (h _ ?_));obtain⟨oL,_,_,hoL,_⟩:=id hn;have ne:∀{b:Addr}{o:Obj},X.s₀.heap.get? b=some o->b≠X.env.locals:=fun e=>z5n (z48 (z5c e) I.ok.above);refine⟨I1.ok,I1.os,I1.bare,⟨fun b o e n hb hx=>(hs.2 b (ne e)).trans (I1.base.keep b o e n hb hx),fun b o e n hb hx=>?_,I1.base.free,fun b o e hx=>?_,I1.base.tups,I1.base.frzs,I1.base.tbls⟩,⟨_,hn2,fun j y v' e1 e2 e3=>?_⟩,fun y c e=>?_,I1.free,I1.freeC,fun p hp=>?_,fun b ob e=>?_,by simpa using I1.len⟩
 · obtain⟨sl,e1⟩:=I1.base.slot b o e n hb hx;exact⟨sl,(hs.2 b (ne e)).trans e1⟩
 · obtain⟨o',e1⟩:=I1.base.there b o e hx;exact⟨o',(hs.2 b (ne e)).trans e1⟩
 · by_cases hj:j=i
   · subst hj;rw[z5m hiσ]at e2;cases e2
   · rw[z43 (z5x hj)]at e2;obtain⟨u',r',q⟩:=hl j y v' e1 (by rw[z43 (z5x hj)];exact e2) e3;refine⟨u',r',?_⟩;rcases q with⟨k,e⟩ | ⟨k,c,e,z⟩
     · exact .inl ⟨k,(hm2 y fun e=>hj (zg0 hN e1 (e▸hi))).trans e⟩
     · exact .inr ⟨k,c,e,z.sameBut hs (I1.cne y c e)⟩
 · obtain⟨w',z⟩:=I1.cell y c e;exact⟨w',z.sameBut hs (I1.cne y c e)⟩
 · obtain⟨e,n,ne,nf,d⟩:=I1.pin p hp;exact⟨(hs.2 p.1 ne).trans e,n,ne,nf,d⟩
 · refine(I1.hok b ob e).stay (fun c w' hc q=>(hs.2 c ?_).trans q) (fun _ q=>q) fun _ _ q=>q;rintro rfl;rcases hc with rfl | hc
   · rw[I1.free]at e;cases e
   · rw[I1.free]at hc;cases hc
end
theorem zjb{fs:List Addr}{H₀ H:Hp}{a C:Addr}{h₀ h h':Heap}(u:Un fs [] H₀ H h₀ h)(l:Lft fs h₀ H a C h h'):Un fs [] H₀ H h₀ h' where
 keep:=fun b o e n nb hx=>l.keep b o (u.keep b o e n nb hx) nb (.inl ⟨_,e⟩)
 slot:=fun b o e n nb hx=>by obtain⟨sl,q⟩:=u.slot b o e n nb hx;obtain⟨sl',q'⟩:=l.slot b _ q nb;exact⟨sl',q'⟩
 free:=u.free
 there:=fun b o e hx=>by
   obtain⟨o',q⟩:=u.there b o e hx;by_cases z:b∈fs
   · obtain⟨sl,q'⟩:=l.slot b _ q z;exact⟨_,q'⟩
   · exact⟨_,l.keep b _ q z (.inl ⟨_,e⟩)⟩
 tups:=u.tups
 frzs:=u.frzs
 tbls:=u.tbls
structure Mid (X:Cx) (H H':Hp) (s:Shared) (h:Heap) (a C:Addr) (dx:Option Addr):Prop where
 un:Un (frs X.stack) [] H H' s.heap h
 hok:HOk X.prog X.w H' h
 fly:Fly s.heap h H' a C dx
section
variable {X:Cx}{pins:zAO}{σ:L2.St}{H H':Hp}{s s':Shared}{a C:Addr}{dx:Option Addr}{M:Model}{E:zVP}{Q:Unit->Shared->Prop}
theorem Mid.inv{h:Heap}(m:Mid X H H' s h a C dx)(I:Inv X pins σ H s)(os:s'.os=s.os)(hg:AllBare s'.gens)(hh:s'.heap=h):Inv X pins σ H' s':=by subst hh;exact I.call' os m.un m.hok hg fun b hb=>absurd hb (by simp)
theorem zq4(m:Mid X H H' s s'.heap a C dx)(I:Inv X pins σ H s)(os:s'.os=s.os)(hg:AllBare s'.gens)(hst:X.stack=X.env::X.outer/\X.env.frame=some X.env.locals)
   (h:∀h',Mid X H H' s h' a C dx->Q () { s' with heap:=h' }):wpAny M X.A (leaving X.env (.ref a)) Q E s':=by
 have I1:=m.inv I os hg rfl;have hfr:=I1.ok.frames;have hl:=I1.stack;rw[hst.1]at hfr hl;refine zf9 (base:=X.base) (h₀:=s.heap) (H:=H') (L:=X.env.locals) hfr hl hst.2 m.fly (fun b u e=>zb5 (m.hok b u e)) (fun b o e=>m.un.there b o e (by simp)) fun h' f1 l1 _=>?_;rw[<-hst.1]at l1;exact h h' ⟨zjb m.un l1,zcz m.hok l1 I1.stkFree,f1⟩
theorem zn9(I:Inv X pins σ H s)(os:s'.os=s.os)(hg:AllBare s'.gens)(un:Un (frs X.stack) [] H H' s.heap s'.heap)(hok:HOk X.prog X.w H' s'.heap)(bn:Born s.heap s'.heap H' a C dx)(hst:X.stack=X.env::X.outer/\X.env.frame=some X.env.locals)
   (h:∀h',Mid X H H' s h' a C dx->Q () { s' with heap:=h' }):wpAny M X.A (leaving X.env (.ref a)) Q E s':=by
 have I1:Inv X pins σ H' s':=I.call' os un hok hg fun b hb=>absurd hb (by simp);have hfr:=I1.ok.frames;have hl:=I1.stack;rw[hst.1]at hfr hl;refine ze2 (base:=X.base) (h₀:=s.heap) (H:=H') (L:=X.env.locals) hfr hl hst.2 bn (fun b u e=>zb5 (I1.hok b u e)) (fun b o e=>un.there b o e (by simp)) fun h' f1 l1 _=>?_;rw[<-hst.1]at l1;exact h h' ⟨zjb un l1,zcz I1.hok l1 I1.stkFree,f1⟩
theorem zn8{A:Around}(m:Mid X H H' s s'.heap a C dx)(I:Inv X pins σ H s)(os:s'.os=s.os)(hg:AllBare s'.gens)
   (h:∀h',Mid X H H' s h' a C dx->Q () { s' with heap:=h' }):wpAny M A (setFlight (.ref a) none) Q E s':=by
 have I1:=m.inv I os hg rfl;obtain⟨oe,vs,T,oT,ts,he,hc,hxx,hd,h1,hT0,hTH,hTa,hT,hdT,h3⟩:=m.fly.tr;have h3s:3<ts.size:=(z57.mp h3).1;unfold setFlight;refine z40 (z7d he hd h1 ?_);rw[z5o (show(Value.ref T != Value.none)=true by simp)];refine z8l hT hdT h3s (h _ ?_);have oth:∀b,b≠T->(s'.heap.update T (Obj.mapFields (·.setIfInBounds 3 ((none:Option Addr).elim Value.none fun f=>rawInt f)))).get? b=s'.heap.get? b:=fun b hb=>z5q _ _ (z5x hb);have l1:Lft (frs X.stack) s.heap H' a C s'.heap (s'.heap.update T (Obj.mapFields (·.setIfInBounds 3 ((none:Option Addr).elim Value.none fun f=>rawInt f)))):=by
   refine⟨fun b o e nb hb=>?_,fun b o e hb=>?_⟩
   · refine(oth b fun z=>?_).trans e;subst z;rcases hb with⟨_,hb⟩ | ⟨_,hb⟩
     · rw[hT0]at hb;cases hb
     · rw[hTH]at hb;cases hb
   · refine⟨o.slots,(oth b fun z=>?_).trans e⟩;subst z;obtain⟨_,o2,ho2,hnf⟩:=I1.stack.mem hb;rw[hT]at ho2;cases ho2;exact hnf _ hdT
 refine⟨zjb m.un l1,zcz m.hok l1 I1.stkFree,m.fly.new,m.fly.un,oe,vs,T,_,_,(oth a (z5x hTa)).trans he,hc,hxx,hd,h1,hT0,hTH,hTa,z52 _ hT (z6y (z6c hdT _)),z6c hdT _,by simp[h3s]⟩
theorem Mid.held{h:Heap}{φ:Heap->Prop}(m:Mid X H H' s h a C dx)(hp:∀o vs,h.get? a=some o->o.cls=.ref C->o.dict=dx->o.data=.fields vs->φ h)(hs:∀h1 h2:Heap,φ h1->(∀o,h1.get? a=some o->h2.get? a=some o)->φ h2) :
   Un (frs X.stack) [] H (upd H' a (.ext φ)) s.heap h/\HOk X.prog X.w (upd H' a (.ext φ)) h:=by
 have ne:∀{b:Addr}{o:HO},H' b=some o->b≠a:=fun e z=>by subst z;rw[m.fly.un]at e;cases e
 refine⟨⟨m.un.keep,m.un.slot,fun b o e n hx=>?_,m.un.there,fun b xs e=>?_,fun b o u e=>?_,fun b ps e=>?_⟩,fun b u e=>?_⟩
 · rw[zz (fun z=>by subst z;rw[m.fly.new]at e;cases e)];exact m.un.free b o e n hx
 · have q:=m.un.tups b xs e;rw[zz (ne q)];exact q
 · have q:=m.un.frzs b o u e;rw[zz (ne q)];exact q
 · obtain⟨more,q⟩:=m.un.tbls b ps e;exact⟨more,by rw[zz (ne q)];exact q⟩
 · by_cases hb:b=a
   · subst hb;rw[jh]at e;cases e;obtain⟨oe,vs,T,oT,ts,he,hc,hxx,hd,_⟩:=m.fly.tr;exact⟨hp oe vs he hc hxx hd,⟨oe,he⟩,hs⟩
   · rw[zz hb]at e;refine(m.hok b u e).stay (fun c w hc q=>q) (fun c q=>?_) fun c xs q=>?_
     · rw[zz (ne q)];exact q
     · rw[zz (ne q)];exact q
end
def CatB(K:zFr)(mg:zMg)(c T:Str)(b:Bool):Prop :=
 ∃C CT,mg c=some (.ref C)/\mg T=some (.ref CT)/\mroIn K C (.ref CT)=some b/\mroIn K CT (.type "BaseException")=some true/\typeIn K (.ref CT)=some (.type "type")/\(clsIn K CT).isSome=true
section
variable {K:zFr}{A:Around}{E:zVP}{s:Shared}{M:Model}{x C CT:Addr}{b:Bool}
theorem zc4{Q:Bool->Shared->Prop}(X:K.In s.heap)(I:OfCls x C s.heap)(h1:mroIn K C (.ref CT)=some b)(h2:mroIn K CT (.type "BaseException")=some true)(h3:typeIn K (.ref CT)=some (.type "type"))(h4:(clsIn K CT).isSome=true)(hq:Q b s) :
   wpAny M A (excMatches (.ref x) (.ref CT)) Q E s:=by
 have L0:=I.type (M:=M);have L1:=looks_mroIn (M:=M) X h1;have L2:=looks_mroIn (M:=M) X h2;have L3:=looks_typeIn (M:=M) X h3;have L4:Looks M s.heap (isInstance (.ref CT) (.type "tuple")) false:=L3.andThen (Looks.of_pure tc_notTuple);have L5:Looks M s.heap (isType (.ref CT)) true:=by
   unfold clsIn at h4;split at h4
   · rename_i ho;intro A' Q' E' s' k q;exact z40 (z8j (k _ _ (X _ _ ho)) (z5e q))
   · cases h4
 have L6:Looks M s.heap (isExcClass (.ref CT)) true:=by unfold isExcClass;refine L5.andThen ?_;rw[z5o rfl];exact L2
 obtain⟨hh,g,d,t,os⟩:=s;unfold excMatches;refine z40 (L4.at ?_);simp only[z59,z69,pure_bind,List.forIn_cons,List.forIn_nil,bind_assoc];refine z40 (L6.at ?_);simp only[Bool.not_true,z59,z69,pure_bind];refine z40 (L0.at ?_);refine z40 (L1.at ?_);cases b with
 | true=>
   simp only[z64,pure_bind];exact z5e hq
 | false=>
   simp only[z59,z69,pure_bind];exact z5e hq
end
def zoz(c:Str)(n:Nat):MO:=if c="Changed" then .xc c (n-1)else .exc c
def zpw(f:Str->Option (Option Nat×C))(c:Str)(ev:Ev)(S:Sto):Option (Out×Sto):=(f c).bind fun p=>match p.1 with
 | some i=>(p.2 (ev.set i (some (.obj S.length))) (S++[zoz c S.length])).bind fun q=>(match q.1 with
   | .nx e=>some (.nx (e.set i none),q.2)
   | .rt x=>some (.rt x,q.2)
   |_=>none)
 | none=>(p.2 ev S).bind fun q=>(match q.1 with
   | .nx e=>some (.nx e,q.2)
   | .rt x=>some (.rt x,q.2)
   |_=>none)
def zgt(c:C)(r:R)(f:Str->Option (Option Nat×C)):C:=fun ev S=>match c ev S with
 |some (.nx e,S1)=>some (.nx e,S1)
 |some (.rt x,S1)=>some (.rt x,S1)
 |some _=>none
 |none=>(r ev S).bind fun p=>zpw f p.1 ev p.2
def hAs(cat:Str->Bool)(i:Option Nat)(d:C)(no:Str->Bool)(f:Str->Option (Option Nat×C)):Str->Option (Option Nat×C):=fun c=>if cat c=true then some (i,d)else if no c=true then f c else none
def hNo:Str->Option (Option Nat×C):=fun _=>none
theorem EnvR.unset{K mg ρ H}{ev:Ev}{σ:L2.St}(h:EnvR K mg ρ H ev σ)(i:Nat):EnvR K mg ρ H (ev.set i none) (σ.set i none):=by
 refine⟨by rw[z5a,z5a];exact h.len,fun j x q=>?_⟩;by_cases hj:j=i
 · subst hj;have hi:j<ev.length:=by
     have:=(z4y.mp q).1
     rwa [z5a]at this
   rw[z5m hi]at q;cases q
 · rw[z43 (z5x hj)]at q ⊢;exact h.at_ j x q
abbrev Cx.inExc(X:Cx)(v:Option Value)(xe:zVP):Cx:={ X with A:=X.A.mark v,calm:=false,xe:=xe }
section
variable {X:Cx}{pins:zAO}{σ:L2.St}{H H':Hp}{s s':Shared}
theorem Inv.toExc(I:Inv X pins σ H s)(v:Option Value)(xe:zVP):Inv (Cx.inExc X v xe) pins σ H s :=
 ⟨⟨I.ok.mod,I.ok.kind,I.ok.glob,I.ok.blt,I.ok.above,I.ok.inj,I.ok.has,I.ok.cab,(fun h=>nomatch h),I.ok.frames,I.ok.stk,I.ok.exf,I.ok.bs,I.ok.bsz,I.ok.noex,I.ok.exfs,I.ok.funs,I.ok.frf⟩,I.os,I.bare,I.base,I.loc,I.cell,I.free,I.freeC,I.pin,I.hok,I.len⟩
theorem Inv.ofExc{v:Option Value}{xe:zVP}(I:Inv (Cx.inExc X v xe) pins σ H s)(ok:X.Ok):Inv X pins σ H s :=
 ⟨ok,I.os,I.bare,I.base,I.loc,I.cell,I.free,I.freeC,I.pin,I.hok,I.len⟩
variable {body suite:List Stmt}{b0:Stmt}{c d:C}{r:R}{T n:Str}{np pos' pos:Pos}{cat:Str->Bool}{Q:Flow->Shared->Prop}
theorem zmz{ρ':List Addr}{S1:Sto}{cls:Str}{a C:Addr}{dx:Option Addr}(m:Mid X H H' s s'.heap a C dx)(hS:StOk X.K X.mg ρ' H' S1)(hC:X.mg cls=some (.ref C))(ht:z0i cls S1 ρ' (zl7 dx)) :
   ∃φ:Heap->Prop,(∀h o vs,h.get? a=some o->o.cls=.ref C->o.dict=dx->o.data=.fields vs->φ h)/\(∀h1 h2:Heap,φ h1->(∀o,h1.get? a=some o->h2.get? a=some o)->φ h2)/\StOk X.K X.mg (ρ'++[a]) (upd H' a (.ext φ)) (S1++[zoz cls S1.length]):=by
 by_cases hc:cls="Changed"
 · obtain⟨b,n,d,e1,e2,e3⟩:=ht hc;cases dx with
   |none=>cases e1
   | some y=>
     cases e1;refine⟨fun h=>∃o vs,h.get? a=some o/\o.cls=.ref C/\o.dict=some b/\o.data=.fields vs,fun h o vs z1 z2 z3 z4=>⟨o,vs,z1,z2,z3,z4⟩,fun h1 h2 ⟨o,vs,q1,q2⟩ k=>⟨o,vs,k o q1,q2⟩,?_⟩;unfold zoz;rw[z5o hc];refine hS.add m.fly.un ⟨C,b,hC,?_,jh⟩;rw[List.getLast?_eq_getElem?]at e2;rw[<-hS.len,z5h (z4y.mp e2).1];exact e2
 · refine⟨OfCls a C,fun h o _ z1 z2 z3 _=>⟨o,z1,z2⟩,fun h1 h2 ⟨o,q1,q2⟩ k=>⟨o,k o q1,q2⟩,?_⟩;unfold zoz;rw[z5l hc];exact hS.add m.fly.un ⟨C,hC,jh⟩
def HS(X:Cx)(hs:List ExceptHandler)(f:Str->Option (Option Nat×C)):Prop:=∀(pins:zAO) (σ:L2.St) (H H0 H':Hp) (s s':Shared) (ρ ρ':List Addr) (ev:Ev) (S1 S':Sto) (o:Out) (cls:Str) (a C:Addr) (dx:Option Addr) (D:Ends),
 Inv X pins σ H s->Mid X H H' s s'.heap a C dx->s'.os=s.os->AllBare s'.gens->EnvR X.K X.mg ρ H0 ev σ->Ext ρ H0 ρ' H'->StOk X.K X.mg ρ' H' S1->z0i cls S1 ρ' (zl7 dx)->X.mg cls=some (.ref C)->zpw f cls ev S1=some (o,S')->Post X.K X.mg D S' ρ H0 o ->
   wpAny (model X.prog X.w) X.A (handleBy (.ref a) X.env hs) (SP X pins D) X.xe s'
theorem z2g{hs:List ExceptHandler}:HS X hs hNo:=fun pins σ H H0 H' s s' ρ ρ' ev S1 S' o cls a C dx D I m os hb hE e1 hS ht hC hf k=>by cases hf
theorem zku{h:Heap}{a C:Addr}{dx:Option Addr}(m:Mid X H H' s h a C dx):OfCls a C h:=by obtain⟨oe,vs,T,oT,ts,he,hc,_⟩:=m.fly.tr;exact⟨oe,he,hc⟩
variable {rest:List ExceptHandler}{no:Str->Bool}{f:Str->Option (Option Nat×C)}
theorem z2h(i:Nat)(hs:∀v xe,FSs (Cx.inExc X v xe) (b0::suite) d)(hN:X.N.Nodup)(hcat:∀c,cat c=true->CatB X.K X.mg c T true)(hno:∀c,no c=true->CatB X.K X.mg c T false)(hr:HS X rest f)
   (hi:X.N[i]? = some n:=by rfl) (hx:X.env.scope.names.lookup n=some .local:=by rfl) (hg:Gl X T:=by rfl) (hdb:(T==("__debug__":Str))=false:=by decide) :
   HS X (.ExceptHandler (some (.Name T np)) (some n) (b0::suite) pos'::rest) (hAs cat (some i) d no f):=by
 intro pins σ H H0 H' s s' ρ ρ' ev S1 S' o cls a C dx D I m os hb hE e1 hS ht hC hf k;have I1:=m.inv I os hb rfl;have Im:=Inv.toExc I1 (some (.ref a)) (notedBy (model X.prog X.w) (X.A.mark (some (.ref a))) X.env (cameBackBy (model X.prog X.w) X.A X.env X.xe));by_cases hct:cat cls=true
 · obtain⟨C',CT,hc1,hc2,h1,h2,h3,h4⟩:=hcat cls hct;rw[hC]at hc1;cases hc1;unfold zpw hAs at hf;rw[z5o hct]at hf;replace hf:((d (ev.set i (some (.obj S1.length))) (S1++[zoz cls S1.length])).bind fun q=>(match q.1 with
     | .nx e=>some (Out.nx (e.set i none),q.2)
     | .rt x=>some (.rt x,q.2)
     |_=>none))=some (o,S'):=hf
   refine z7e (z66 (zak (X:=Cx.inExc X (some (.ref a)) _) Im hg hc2 (zc4 I1.kIn (zku m) h1 h2 h3 h4 ?_) hdb)) (by intro q;cases q);refine codeAny_handlers_suite_as (zn8 m I os hb fun h6 m6=>?_);obtain⟨φ,p1,p2,hS2⟩:=zmz (s':={ s' with heap:=h6 }) m6 hS hC ht;obtain⟨un6,hok6⟩:=m6.held (p1 h6) p2;have I6:Inv X pins σ (upd H' a (.ext φ)) { s' with heap:=h6 }:=I.call' os un6 hok6 hb fun b hb=>absurd hb (by simp);have I6m:=Inv.toExc I6 (some (.ref a)) (AsSuiteRaised (model X.prog X.w) (X.A.mark (some (.ref a))) X.env n pos' (notedBy (model X.prog X.w) (X.A.mark (some (.ref a))) X.env (cameBackBy (model X.prog X.w) X.A X.env X.xe)));refine zd9 (X:=Cx.inExc X (some (.ref a)) _) (v:=.ref a) I6m hN hi (.inl hx) rfl (fun s7 I7=>?_) (.inr hx);obtain⟨⟨o2,S2⟩,q2,hf⟩:=z5 hf;have e2:Ext ρ' H' (ρ'++[a]) (upd H' a (.ext φ)):=zco hS _ m.fly.un;have hE2:EnvR X.K X.mg (ρ'++[a]) (upd H' a (.ext φ)) (ev.set i (some (.obj S1.length))) (σ.set i (some (.ref a))):=by refine EnvR.set (hE.mono (e1.trans e2)) ?_ i;unfold Rep;refine⟨a,rfl,?_⟩;rw[z5j (by rw[hS.len]<;>exact z45 _),hS.len];simp
   have go:=hs (some (.ref a)) _ pins s7 _ _ { nx:=fun σ' H2=>D.nx (σ'.set i none) H2,rt:=D.rt,bk:=fun _ _=>False,ct:=fun _ _=>False } I7 ⟨_,_,_,o2,S2,hE2,hS2,q2,by
     cases o2 with
     |nx e=>cases hf;exact fun σ' ρ2 H2 x1 x2 x3=>k _ ρ2 H2 ((e1.trans e2).trans x1) x2 (x3.unset i)
     |rt x=>cases hf;exact fun v ρ2 H2 x1 x2 x3=>k v ρ2 H2 ((e1.trans e2).trans x1) x2 x3
     |_=>cases hf⟩
   refine thn go fun f s8 q=>?_;cases f with
   | next=>
     obtain⟨σ8,H8,I8,q⟩:=q;exact zor (Inv.ofExc I8 I.ok) hN hi hx fun s9 I9=>⟨_,H8,I9,q⟩
   | ret u=>
     obtain⟨v,σ8,H8,I8,r8,q⟩:=q;exact zor (Inv.ofExc I8 I.ok) hN hi hx fun s9 I9=>⟨v,_,H8,I9,r8,q⟩
   |brk=>obtain⟨_,_,_,q⟩:=q;exact q.elim
   |cont=>obtain⟨_,_,_,q⟩:=q;exact q.elim
 · by_cases hnt:no cls=true
   · obtain⟨C',CT,hc1,hc2,h1,h2,h3,h4⟩:=hno cls hnt;rw[hC]at hc1;cases hc1;refine z7e (z66 (zak (X:=Cx.inExc X (some (.ref a)) _) Im hg hc2 (zc4 I1.kIn (zku m) h1 h2 h3 h4 ?_) hdb)) (by intro q;cases q);refine hr pins σ H H0 H' s s' ρ ρ' ev S1 S' o cls a C dx D I m os hb hE e1 hS ht hC ?_ k;unfold zpw hAs at hf;rw[z5l hct,z5o hnt]at hf;exact hf
   · unfold zpw hAs at hf;rw[z5l hct,z5l hnt]at hf;cases hf
theorem zuz(hs:∀v xe,FSs (Cx.inExc X v xe) (b0::suite) d)(hcat:∀c,cat c=true->CatB X.K X.mg c T true)(hno:∀c,no c=true->CatB X.K X.mg c T false)(hr:HS X rest f)
   (hg:Gl X T:=by rfl) (hdb:(T==("__debug__":Str))=false:=by decide) :
   HS X (.ExceptHandler (some (.Name T np)) none (b0::suite) pos'::rest) (hAs cat none d no f):=by
 intro pins σ H H0 H' s s' ρ ρ' ev S1 S' o cls a C dx D I m os hb hE e1 hS ht hC hf k;have I1:=m.inv I os hb rfl;have Im:=Inv.toExc I1 (some (.ref a)) (notedBy (model X.prog X.w) (X.A.mark (some (.ref a))) X.env (cameBackBy (model X.prog X.w) X.A X.env X.xe));by_cases hct:cat cls=true
 · obtain⟨C',CT,hc1,hc2,h1,h2,h3,h4⟩:=hcat cls hct;rw[hC]at hc1;cases hc1;unfold zpw hAs at hf;rw[z5o hct]at hf;replace hf:((d ev S1).bind fun q=>(match q.1 with
     | .nx e=>some (Out.nx e,q.2)
     | .rt x=>some (.rt x,q.2)
     |_=>none))=some (o,S'):=hf
   refine z7e (z66 (zak (X:=Cx.inExc X (some (.ref a)) _) Im hg hc2 (zc4 I1.kIn (zku m) h1 h2 h3 h4 ?_) hdb)) (by intro q;cases q);refine codeAny_handlers_suite (zn8 m I os hb fun h6 m6=>?_);have I6:=m6.inv (s':={ s' with heap:=h6 }) I os hb rfl;have I6m:=Inv.toExc I6 (some (.ref a)) (notedBy (model X.prog X.w) (X.A.mark (some (.ref a))) X.env (cameBackBy (model X.prog X.w) X.A X.env X.xe));obtain⟨⟨o2,S2⟩,q2,hf⟩:=z5 hf;have go:=hs (some (.ref a)) _ pins { s' with heap:=h6 } _ _ { nx:=D.nx,rt:=D.rt,bk:=fun _ _=>False,ct:=fun _ _=>False } I6m ⟨_,_,_,o2,S2,hE.mono e1,hS,q2,by
     cases o2 with
     |nx e=>cases hf;exact fun σ' ρ2 H2 x1 x2 x3=>k _ ρ2 H2 (e1.trans x1) x2 x3
     |rt x=>cases hf;exact fun v ρ2 H2 x1 x2 x3=>k v ρ2 H2 (e1.trans x1) x2 x3
     |_=>cases hf⟩
   refine thn go fun f s8 q=>?_;cases f with
   | next=>
     obtain⟨σ8,H8,I8,q⟩:=q;exact⟨σ8,H8,Inv.ofExc I8 I.ok,q⟩
   | ret u=>
     obtain⟨v,σ8,H8,I8,r8,q⟩:=q;exact⟨v,σ8,H8,Inv.ofExc I8 I.ok,r8,q⟩
   |brk=>obtain⟨_,_,_,q⟩:=q;exact q.elim
   |cont=>obtain⟨_,_,_,q⟩:=q;exact q.elim
 · by_cases hnt:no cls=true
   · obtain⟨C',CT,hc1,hc2,h1,h2,h3,h4⟩:=hno cls hnt;rw[hC]at hc1;cases hc1;refine z7e (z66 (zak (X:=Cx.inExc X (some (.ref a)) _) Im hg hc2 (zc4 I1.kIn (zku m) h1 h2 h3 h4 ?_) hdb)) (by intro q;cases q);refine hr pins σ H H0 H' s s' ρ ρ' ev S1 S' o cls a C dx D I m os hb hE e1 hS ht hC ?_ k;unfold zpw hAs at hf;rw[z5l hct,z5o hnt]at hf;exact hf
   · unfold zpw hAs at hf;rw[z5l hct,z5l hnt]at hf;cases hf
end
section
variable {M:Model}{A:Around}{E:zVP}{s:Shared}{env:Env}
theorem zmt{bd els:Sem Flow}{k₀:ExceptHandler}{ks:List ExceptHandler}{Q:Flow->Shared->Prop}
   (h:wpAny M A bd (fun f s₁=>match f with | .next=>wpAny M A els Q E s₁ | f=>Q f s₁) (fun e s₁=>wpAny M A (leaving env e) (fun _ s₂=>wpAny M A (handleBy e env (k₀::ks)) Q E s₂) E s₁) s) :
   wpAny M A (tryStmt false bd (k₀::ks) els [] env) Q E s:=by
 unfold tryStmt;simp only[List.isEmpty_nil,z64,List.isEmpty_cons,z59,z69,z83];refine z40 (wpAny_attempt (z7t h (fun f s₁ h₁=>?_) fun e s₁ h₁=>?_))
 · cases f<;>first | exact h₁ | exact z5e h₁
 · show wpAny M A (noteFrame e env >>= fun _=>setFlight e none >>= fun _=>handleBy e env (k₀::ks)) Q E s₁;rw[<-bind_assoc];exact z40 h₁
end
section
variable {X:Cx}{body suite:List Stmt}{b0:Stmt}{c d:C}{r:R}{T n:Str}{np pos' pos:Pos}{cat:Str->Bool}
theorem zu6{h0:ExceptHandler}{hs:List ExceptHandler}{f:Str->Option (Option Nat×C)}(hb:∀xe,FSs (X.wish xe) body c)(hr:∀xe,RTs (X.wish xe) body r)(hh:HS X (h0::hs) f)(hcl:∀c p,f c=some p->∃C,X.mg c=some (.ref C))
   (hst:X.stack=X.env::X.outer/\X.env.frame=some X.env.locals:=by exact⟨rfl,rfl⟩) :
   FS X (.Try body (h0::hs) [] [] pos) (zgt c r f):=by
 intro pins s σ H D I t;obtain⟨ρ,ev,S,o,S',hE,hS,hf,k⟩:=t;rw[arm_exec_Try];refine z40 (z7i (zmt ?_));generalize hW:(fun e s₁=>wpAny (model X.prog X.w) X.A (leaving X.env e) (fun _ s₂=>wpAny (model X.prog X.w) X.A (handleBy e X.env (h0::hs)) (SP X pins D) X.xe s₂) X.xe s₁)=W;unfold zgt at hf;split at hf
 · rename_i e1 S1 q;cases hf;refine thn (hb W pins s σ H { nx:=D.nx,rt:=fun _ _=>False } (I.wish W) ⟨ρ,ev,S,.nx e1,_,hE,hS,q,k⟩) fun f s1 z=>?_;cases f with
   | next=>
     obtain⟨σ1,H1,I1,z⟩:=z;exact z7h ⟨σ1,H1,I1.unwish,z⟩
   |ret u=>obtain⟨_,_,_,_,_,z⟩:=z;exact z.elim
   |brk=>obtain⟨_,_,_,z⟩:=z;exact z.elim
   |cont=>obtain⟨_,_,_,z⟩:=z;exact z.elim
 · rename_i x1 S1 q;cases hf;refine thn (hb W pins s σ H { nx:=fun _ _=>False,rt:=D.rt } (I.wish W) ⟨ρ,ev,S,.rt x1,_,hE,hS,q,k⟩) fun f s1 z=>?_;cases f with
   |next=>obtain⟨_,_,_,z⟩:=z;exact z.elim
   | ret u=>
     obtain⟨v,σ1,H1,I1,r1,z⟩:=z;exact⟨v,σ1,H1,I1.unwish,r1,z⟩
   |brk=>obtain⟨_,_,_,z⟩:=z;exact z.elim
   |cont=>obtain⟨_,_,_,z⟩:=z;exact z.elim
 · cases hf
 · obtain⟨⟨cls,S1⟩,q1,hf⟩:=z5 hf;dsimp only at hf;obtain⟨C,hC⟩:∃C,X.mg cls=some (.ref C):=by obtain⟨p,q,_⟩:=z5 hf;exact hcl cls p q
   refine hr W pins s σ H (fun e oC H'=>∃ρ',oC=some C/\Ext ρ H ρ' H'/\StOk X.K X.mg ρ' H' S1/\z0i cls S1 ρ' e) _ ?_ (I.wish W) ⟨ρ,ev,S,cls,S1,hE,hS,q1,C,hC,fun e ρ' H' x1 x2 x3=>⟨ρ',rfl,x1,x2,x3⟩⟩;subst hW;refine⟨fun {H1 s1 a C1 dx H' s'} I1 os hg un hok bn hE1=>?_,fun {H1 s1 e s2} I1 hx1=>?_⟩
   · obtain⟨ρ',rfl',x1,x2,x3⟩:=hE1;cases rfl';exact zn9 I1.unwish os hg un hok bn hst fun h' m=>hh _ _ _ _ _ _ _ _ _ _ _ _ _ _ _ _ _ _ I1.unwish m os hg hE x1 x2 x3 hC hf k
   · obtain⟨a,C1,dx,H',rfl,os,bare,un,hok,fl,ρ',rfl',x1,x2,x3⟩:=hx1;cases rfl';exact zq4 ⟨un,hok,fl⟩ I1.unwish os bare hst fun h' m=>hh _ _ _ _ _ _ _ _ _ _ _ _ _ _ _ _ _ _ I1.unwish m os bare hE x1 x2 x3 hC hf k
end
def zds:List Value:=[.type "ValueError",.type "Exception",.type "BaseException",.type "object"]
theorem zgm{K:zFr}:∀{l:List Value},tailIn K zds l=true->l.contains (.type "BaseException")=true
 | [],e=>by cases(z6n.mp e)
 | v::r,e=>by
   unfold tailIn at e;rcases Bool.or_eq_true_iff.mp e with q | q
   · rw[z6n.mp q];decide +kernel
   · split at q
     · split at q
       · simp only[z5k,z6n]at q;rw[List.contains_cons,zgm q.2,Bool.or_true]
       · cases q
     · cases q
theorem zzo{K:zFr}{mg:zMg}{c:Str}{C:Addr}(hm:mg c=some (.ref C))(q:excIn K C zds "ValueError.__new__"=true):ExcCls K mg c:=by
 unfold excIn at q;split at q
 · rename_i dd cd sl ho;split at q
   · rename_i C' bm k0 k1 k2 k3 n k5 hmro hs;simp only[z5k,z6n,Bool.not_eq_true']at q;obtain⟨⟨⟨⟨⟨rfl,rfl⟩,hdel⟩,ht⟩,hok⟩,hni⟩:=q;obtain⟨nm,bs,mro,ns,qn,hd,sn,sub,ab,col,del⟩:=cd;dsimp only at hmro hdel hok hni;subst hmro;subst hdel;have hsl:sl=#[k0,k1,k2,k3,some (.builtin "ValueError.__new__"),k5]:=by
       cases sl with
       |mk l=>simp only at hs;subst hs;rfl
     subst hsl;unfold nsOkIn at hok;split at hok
     · rename_i oc od es ep osl hN;have hk:StrKeys es:=fun e he=>by
         have z:=z7q.mp hok e he;cases hkey:e.key with
         |str n t=>exact⟨n,t,rfl⟩
         |_=>rw[hkey]at z;cases z
       have hi:nsFind es "__init__"=none:=by
         unfold nsIn at hni;rw[hN]at hni;dsimp only at hni;split at hni
         · cases hni
         · rename_i he;unfold nsFind findBy;rw[<-z8h,he];rfl
       refine⟨_,ns,nm,qn,bs,bm,zds,hd,sn,sub,ab,col,dd,k0,k1,k2,k3,k5, "ValueError", "ValueError.__new__", "ValueError.__init__",nsFind es,hm,z68,?_,hi,fun h X=>⟨X _ _ ho,⟨_,es,ep,X _ _ hN,rfl,hk,fun _=>rfl⟩,tail_of_in X ht⟩⟩;exact zgm ht
     · cases hok
   · cases q
 · cases q
def ExcI(K:zFr)(mg:zMg)(c:Str):Prop:=∃C,mg c=some (.ref C)/\ExcIs K C/\kitOne K (.ref C) (.type "ValueError")=some true
structure Up where
 raised:List Str
 asked:List Str
def z3t:D->Option D
 | .int a=>if a.natAbs.log2<1920 then some (.str (toString a))else none
 | .str x=>if x.length<=sizeLine then some (.str x)else none
 |_=>none
section
variable {K:zFr}{mg:zMg}{h:Heap}
theorem zk8{C:Addr}(h8:hasDictIn K C=true):(clsIn K C).isSome=true:=by obtain⟨cd,hc,_⟩:=any_some h8;rw[hc];rfl
theorem has_exc(KX:K.In h)(G:h.Ns mainGlobals mg){c:Str}{C:Addr}(a:nsIn K mainGlobals c=some (some (.ref C)))(q:excIn K C zds "ValueError.__new__"=true):ExcCls K mg c:=zzo (mg_of KX G a) q
theorem has_ei(KX:K.In h)(G:h.Ns mainGlobals mg){c:Str}{C:Addr}(a:nsIn K mainGlobals c=some (some (.ref C)))(h1:findIn K (.ref C) "__getattribute__"=some (some (.builtin "BaseException.__getattribute__")))(h2:findIn K (.ref C) "__getattr__"=some none)
   (h3:findIn K (.ref C) "__class__"=some (some (.builtin "object.__class__"))) (h4:specialIn K (.builtin "object.__class__") "__get__"=some (some (.builtin "getset_descriptor.__get__"))) (h5:takesIn K (.builtin "object.__class__")=some true) (h6:mroIn K C (.type "object")=some true)
   (h7:mroIn K C (.type "BaseException")=some true) (h8:hasDictIn K C=true) (h9:kitOne K (.ref C) (.type "ValueError")=some true):ExcI K mg c:=⟨C,mg_of KX G a,⟨h1,h2,h3,h4,h5,h6,h7,zk8 h8⟩,h9⟩
theorem has_val(KX:K.In h)(G:h.Ns mainGlobals mg){c:Str}{C:Addr}(a:nsIn K mainGlobals c=some (some (.ref C))):∃f,mg c=some (.ref f):=⟨C,mg_of KX G a⟩
theorem all_nil{P:Str->Prop}:∀x∈([]:List Str),P x:=fun _ h=>nomatch h
theorem all_cons{P:Str->Prop}{a:Str}{l:List Str}(h:P a)(t:∀x∈l,P x):∀x∈a::l,P x:=fun x hx=>by
 rcases z5z.mp hx with rfl | hx
 · exact h
 · exact t x hx
end
section
variable {P:Program}{w:World}{K:zFr}{mg:zMg}{base:Heap}{x c m qual:Str}{st:Stmt}{N ps:List Str}{k:Nat}{r:R}
def z3c(P:Program)(w:World)(K:zFr)(mg:zMg)(base:Heap)(N:List Str)(qual:Str)(st:Stmt)(k:Nat)(r:R):Prop :=
 ∀(f:Addr) (cdv:Value) (A:Around) (outer:List Env) (s:Shared) (H:Hp) (E:XK),Room k (A.deeper (envOfC qual (zg st) s.heap.objs.size f cdv))->RSs (zfr (CX1 P w) P w K mg base N qual (zg st) f cdv A outer s H E) (xo st) r
theorem HasMth.rmth(h:HasMth K mg c m qual st)(S:FnScope N ps (zg st))(hb:zv5 m qual st ps)(hbody:z3c P w K mg base N qual st k r):RMth P w K mg base (k+1) c m (zfn N.length ps.length r):=by obtain⟨C,f,fd,F,hm,hc,hme⟩:=h.ex;exact⟨C,f,fd,ps,[],[],[],_,F.rok S fun cdv A outer s H E hr=>hbody f cdv A outer s H E hr,hm,hc,hme,F.binds0 hb,.nil,fun _ _=>RepL.nil,fun args S r e=>by rw[z5y];exact e⟩
end
def zyf:D->Option D
 | .int i=>some (.int (-i))
 |_=>none
theorem zov{X:Cx}{e:Expr}{f:E}{pos:Pos}(h:FE X e f):FE X (.UnaryOp .USub e pos) (e1 zyf f):=j0 (z1p zwk h) fun σ H Q t=>by
 obtain⟨ρ,ev,S,d,S',hE,hS,hf,k⟩:=t;obtain⟨⟨x,S1⟩,q1,hf⟩:=z5 hf;obtain⟨z,q2,hf⟩:=zcc hf;cases hf;cases x with
 | int i=>
   cases q2;exact⟨ρ,ev,S,_,S1,hE,hS,q1,fun v ρ1 H1 a b c=>⟨i,c,k _ ρ1 H1 a b rfl⟩⟩
 |_=>cases q2
section
variable {X:Cx}{K:zFr}{mg:zMg}{e a b:Expr}{es:List Expr}{f g:E}{ga:As}{p pos:Pos}
def zwb(_:Sto):List D->Option D
 | [.int i]=>some (.int i)
 | [.bl b]=>some (.int (if b then 1 else 0))
 |_=>none
theorem ztt:zs6 K mg (fun xs H Q=>(∃i,xs=[.int i]/\Q (.int i) H)\/∃k,xs=[.bl k]/\Q (.int (if k then 1 else 0)) H) zwb:=by
 intro ρ H S xs ds d Q hS r e k;unfold zwb at e;split at e
 · cases e;obtain⟨v,rfl,r1⟩:=one r;exact .inl ⟨_,by rw[show v=.int _ from r1],k _ H (Ext.refl _ _) hS rfl⟩
 · cases e;obtain⟨v,rfl,r1⟩:=one r;exact .inr ⟨_,by rw[show v=.bl _ from r1],k _ H (Ext.refl _ _) hS rfl⟩
 · cases e
theorem zro(hm:X.mg "int"=none)(ha:FA X (e::es) ga)(hg:Gl X "int":=by rfl)(he:starEach (e::es) X.env=(false,eval e X.env)::starEach es X.env:=by exact qm rfl)(hpl:(backTo pos (starEach es X.env)).any (·.1)=false:=by exact jy rfl) :
   FE X (.Call (.Name "int" p) (e::es) [] pos) (eA zwb ga):=z2o zpf ztt hm zr0 ha hg (by decide) (by decide) he hpl
end
end F
namespace F
open PySem L2 PySem.Spec PyProof.Rows PySem.W
def H0(ts:List Addr)(so:Option (Addr×HO)):Hp:=fun b=>if b∈ts then some (.tbl #[])else match so with
 |some (a,o)=>if b=a then some o else none
 |none=>none
section
variable {K:Frag}{h:Heap}{mg:zMg} (X:K.In h) (G:h.Ns mainGlobals mg)
include X G
end
end F
namespace F
open PySem L2 PySem.Spec PySem.Calls PyProof.Rows PySem.W
def onC(H H0:Hp)(cl:zLA):Hp:=fun b=>if b∈cl.map (·.2)then H0 b else H b
def isI:D->Bool
 | .int _=>true
 |_=>false
def trk(H:Hp)(h:Heap)(cl:zLA):Hp:=onC H (fun b=>(h.get? b).map fun o=>.frz o (.own 0)) cl
end F
namespace F
open PySem L2 PySem.Spec PyProof.Rows
def yi(g:As):E:=fun ev S=>(g ev S).bind fun q=>match q.1 with
 | [.tup ds]=>some (.lst ds,q.2)
 | [.lst ds]=>some (.lst ds,q.2)
 | [.obj i]=>(match q.2[i]? with
   |some (.lst ds)=>some (.lst ds,q.2)
   |_=>none)
 |_=>none
section
variable {X:Cx}{e:Expr}{es:List Expr}{f:E}{g:As}{p pos:Pos}
theorem zbd(hm:X.mg "list"=none)(ha:FA X (e::es) g)(hg:Gl X "list":=by rfl)(he:starEach (e::es) X.env=(false,eval e X.env)::starEach es X.env:=by exact qm rfl)(hpl:(backTo pos (starEach es X.env)).any (·.1)=false:=by exact jy rfl):FE X (.Call (.Name "list" p) (e::es) [] pos) (yi g) :=
 j0 (zh9 zio hg hm zi2 ha (by decide) (by decide) he hpl) fun σ H Q h=>by
   obtain⟨ρ,ev,S,d,S',hE,hS,hf,k⟩:=h;obtain⟨⟨x,S1⟩,q1,hf⟩:=z5 hf;refine⟨ρ,ev,S,x,S1,hE,hS,q1,fun vs ρ1 H1 E1 hS1 r1=>?_⟩;have fin:∀{us:List V}{ds:List D},RepL X.K X.mg ρ1 H1 ds us->(d,S')=(D.lst ds,S1)->∀l,H1 l=none->Q (.ref l) (upd H1 l (.lst us)):=by intro us ds r e l hl;cases e;exact k _ ρ1 _ (E1.trans (yw hS1 _ hl)) (hS1.new _ hl) (Rep.lst (s:=hS1) hl r)
   dsimp only at hf;split at hf
   · obtain⟨v,rfl,r⟩:=one r1;obtain⟨b,us,rfl,t,r⟩:=r.refT;exact⟨b,us,rfl,.inr t.sq,fin r (z5s hf).symm⟩
   · obtain⟨v,rfl,r⟩:=one r1;obtain⟨b,us,rfl,t,r⟩:=r.refL;exact⟨b,us,rfl,.inl t.sq,fin r (z5s hf).symm⟩
   · rename_i i _;split at hf
     · rename_i ds eu;obtain⟨v,rfl,r⟩:=one r1;unfold Rep at r;obtain⟨a,rfl,ea⟩:=r;obtain⟨us,m1,m2⟩:=hS1.ob _ _ a eu ea;exact⟨a,us,rfl,.inl (.of m1),fin m2 (z5s hf).symm⟩
     · cases hf
   · cases hf
end
mutual
def frd(n:Nat)(S:Sto):D->Option D
 | .obj i=>if i<n then some (.obj i)else (match S[i]? with
   |some (.lst us)=>if bndL n us=true then some (.lst us)else none
   |_=>none)
 | .tup ds=>(frdL n S ds).map .tup
 |d=>if bnd n d=true then some d else none
def frdL(n:Nat)(S:Sto):List D->Option (List D)
 | []=>some []
 |d::ds=>(frd n S d).bind fun x=>(frdL n S ds).map (x::·)
end
def frz2(g:G):G:=fun ds S=>(g ds S).bind fun r=>if(r.2.take S.length).all (zhy S.length)=true then (frd S.length r.2 r.1).map fun d=>(d,r.2.take S.length)else none
section
variable {K:zFr}{mg:zMg}{ρ ρ':List Addr}{H H':Hp}{S S1:Sto}{n:Nat}
theorem yf{d d':D}(e:frd n S d=(if bnd n d=true then some d else none))(h:frd n S d=some d'):bnd n d=true/\d'=d:=by
 rw[e]at h;split at h
 · rename_i z;cases h;exact⟨z,rfl⟩
 · cases h
mutual
theorem Rep.frd(hS:StOk K mg ρ H S):∀{d d':D}{v:V},frd n S d=some d'->Rep K mg ρ H d v->Rep K mg (ρ.take n) H d' v
 | .obj i,d',v,hf,r1=>by
   unfold F.frd at hf;split at hf
   · rename_i hi;cases hf;exact r1.cut (by unfold bnd;exact z49 hi)
   · rename_i hi;split at hf
     · rename_i us eu;split at hf
       · rename_i hu;cases hf;unfold Rep at r1;obtain⟨a,rfl,ea⟩:=r1;obtain⟨ws,m1,m2⟩:=hS.ob i _ a eu ea;unfold Rep;refine⟨a,ws,rfl,.inl ⟨fun z=>?_,.inl m1⟩,m2.cut hu⟩;obtain⟨j,hj,ej⟩:=List.getElem_of_mem z;rw[z5g]at hj;rw[List.getElem_take]at ej;have hj2:j<ρ.length:=by omega
         have e3:ρ[j]? = ρ[i]?:=by rw[ea,z44 hj2,ej]
         have:=(z8m hj2 hS.nd).mp e3;omega
       · cases hf
     · cases hf
 | .tup ds,d',v,hf,r1=>by unfold F.frd at hf;obtain⟨ds',q,hf⟩:=zcc hf;subst hf;unfold Rep at r1 ⊢;obtain⟨p,vs,e1,t,r⟩:=r1;exact⟨p,vs,e1,t.cut,RepL.frd hS q r⟩
 | .lst ds,d',v,hf,r1=>by obtain⟨z,rfl⟩:=yf (by unfold F.frd;rfl) hf;exact r1.cut z
 | .non,d',v,hf,r1=>by obtain⟨z,rfl⟩:=yf (by unfold F.frd;rfl) hf;exact r1.cut z
 | .bl _,d',v,hf,r1=>by obtain⟨z,rfl⟩:=yf (by unfold F.frd;rfl) hf;exact r1.cut z
 | .int _,d',v,hf,r1=>by obtain⟨z,rfl⟩:=yf (by unfold F.frd;rfl) hf;exact r1.cut z
 | .str _,d',v,hf,r1=>by obtain⟨z,rfl⟩:=yf (by unfold F.frd;rfl) hf;exact r1.cut z
 | .fn _,d',v,hf,r1=>by obtain⟨z,rfl⟩:=yf (by unfold F.frd;rfl) hf;exact r1.cut z
 | .ty _,d',v,hf,r1=>by obtain⟨z,rfl⟩:=yf (by unfold F.frd;rfl) hf;exact r1.cut z
 | .lam _,d',v,hf,r1=>by obtain⟨z,rfl⟩:=yf (by unfold F.frd;rfl) hf;exact r1.cut z
 | .clo _ _,d',v,hf,r1=>by obtain⟨z,rfl⟩:=yf (by unfold F.frd;rfl) hf;exact r1.cut z
theorem RepL.frd(hS:StOk K mg ρ H S):∀{ds ds':List D}{vs:List V},frdL n S ds=some ds'->RepL K mg ρ H ds vs->RepL K mg (ρ.take n) H ds' vs
 | [],_,_,hf,h=>by unfold F.frdL at hf;cases hf;exact h
 | d::ds,_,_,hf,h=>by unfold F.frdL at hf;obtain⟨x,q1,hf⟩:=z5 hf;obtain⟨xs,q2,hf⟩:=zcc hf;subst hf;unfold RepL at h ⊢;obtain⟨v,r,e,h1,h2⟩:=h;exact⟨v,r,e,Rep.frd hS q1 h1,RepL.frd hS q2 h2⟩
end
theorem zvb{g:G}(vs:List V)(H:Hp)(Q:VK)(E:XK)(h:spG K mg (frz2 g) vs H Q E):spG K mg g vs H Q E:=by
 obtain⟨ρ,ds,S,d,S',hr,hS,hf,k⟩:=h;obtain⟨⟨d1,S1⟩,q1,hf⟩:=z5 hf;refine⟨ρ,ds,S,d1,S1,hr,hS,q1,fun v ρ' H' E1 hS1 r1=>?_⟩;dsimp only at hf;split at hf
 · rename_i hb;obtain⟨x,q2,hf⟩:=zcc hf;cases hf;exact k v _ H' (E1.cut hS.len) (hS1.cut hb) (r1.frd hS1 q2)
 · cases hf
end
theorem Cal.frz2{P:Program}{w:World}{K:zFr}{mg:zMg}{base:Heap}{k:Nat}{x:Str}{g:G}(c:Cal P w K mg base k x g):Cal P w K mg base k x (frz2 g):=by obtain⟨f,fd,ps,ds,dvs,dds,gg,FF,hm,hk,hb,hd,hdd,hg⟩:=c.ex;refine⟨f,fd,ps,ds,dvs,dds,_root_.F.frz2 gg,FnOk.imp FF zvb,hm,hk,hb,hd,hdd,fun args S r e=>?_⟩;obtain⟨r0,q,e⟩:=z5 e;show(gg (args++dds) S).bind _=_;rw[hg args S r0 q];exact e
end F
namespace F
open PySem L2 PySem.Spec PyProof.Rows
theorem Cal.alias{P:Program}{w:World}{K:zFr}{mg:zMg}{base:Heap}{k:Nat}{x y:Str}{g:G}(c:Cal P w K mg base k x g)(h:mg y=mg x):Cal P w K mg base k y g:=by obtain⟨f,fd,ps,ds,dvs,dds,gg,FF,hm,r⟩:=c.ex;exact⟨f,fd,ps,ds,dvs,dds,gg,FF,h.trans hm,r⟩
theorem has_alias{K:zFr}{h:Heap}{mg:zMg}(KX:K.In h)(G:h.Ns mainGlobals mg){x y:Str}{C:Addr}(a:PySem.W.nsIn K mainGlobals y=some (some (.ref C)))(b:PySem.W.nsIn K mainGlobals x=some (some (.ref C))):mg y=mg x:=(z6x KX G a).trans (z6x KX G b).symm
end F
namespace F
open PySem L2 PySem.Spec PyProof.Rows PySem.W PySem.Calls
theorem zux:typeLookup (.type "list_reverseiterator") "__len__"=pure none:=by rw[typeLookup_type,builtinLookup_eq_fast];kernel_rfl
theorem zq7:typeLookup (.type "list_reverseiterator") "__length_hint__"=pure (some (.builtin "list_reverseiterator.__length_hint__")):=by rw[typeLookup_type,builtinLookup_eq_fast];kernel_rfl
theorem zuw:isSubtype (.type "list_reverseiterator") (.type "list_reverseiterator")=pure true:=by rw[isSubtype_type];kernel_rfl
section
variable {prog:Program}{w:World}{A:Around}{s:Shared}{it l:Addr}{items:Array Value}
def zps(items:Array Value):Nat->Value->Prop:=fun i v=>items[items.size-1-i]? = some v
theorem zqf{E:zVP}{Q:Bool->Shared->Prop}{i:Int}(hit:s.heap.IsRevIter it l i)(h:Q false s):wpAny (model prog w) A (Builtin.List.listLengthHint (.ref it)) Q E s:=by unfold Builtin.List.listLengthHint;refine z40 (wpAny_specialOf hit.typeIs zux ?_);refine z40 (wpAny_specialOf (name:=Str.ofString "__length_hint__") hit.typeIs zq7 ?_);refine z40 (wpAny_isInstance hit.typeIs zuw ?_);exact z5e h
variable {R:Result->Shared->Prop}
theorem zlp(hh:A.handled=none)(hne:l≠it)(hl:s.heap.IsList l items)(hit:s.heap.IsRevIter it l ((items.size:Int)-1))(hn:items.size<=sizeLine){S:Addr}{c₀:Nat}
   (hS:s.heap.get? S=some { cls:=.type "list",data:=.seq #[] c₀ }) (h1:S≠it) (h2:S≠l)
   (hR:∀s' acc' c',Moved [S,it] (fun a b=>b=a) s s'->s'.heap.get? S=some { cls:=.type "list",data:=.seq acc' c' }->ItemsOf (zps items) acc' items.size->R (.ok (.ret .none)) s') :
   wpAny (model prog w) A.in1 (Builtin.List.listExtendWith (.ref S) (.ref it) .none) (fun fin s'=>match fin with
     | .done f=>R (.ok f) s'
     | .again c'=>c'.quiet=true/\codeAny (model prog w) A c' R s') (fun e s'=>R (.error e) s') s:=by
 have W:=(Walks.listRev (prog:=prog) (w:=w) (A:=A.in1) hh it l hne items).toS;have st0:(0:Nat)<=items.size/\s.heap.IsRevIter it l ((items.size:Int)-1-((0:Nat):Int))/\s.heap.IsList l items:=⟨z5t _,by simpa using hit,hl⟩
 have nf:S∉[it,l]:=by simp[h1,h2]
 have ns:Builtin.List.listSameRef (.ref S) (.ref it)=false:=by unfold Builtin.List.listSameRef;simpa using h1
 unfold Builtin.List.listExtendWith;refine z40 (wpAny_typeOf hit.typeIs ?_);rw[ns,z5l (by decide)];refine z40 (W.self 0 _ _ _ st0 (z40 (wpAny_holding (zqf hit ?_))));rw[z5l (by decide +kernel)];refine z5e ⟨plainId_quiet F.plain_extend_loop _,?_⟩;exact codeAny_extend_loopS W hn S nf .none items.size 0 s #[] c₀ (Nat.sub_zero _) (z5t _) st0 hS (ItemsOf.nil _) fun s' acc' c' m hs ha=>hR s' acc' c' m hs ha
theorem zqe(hh:A.handled=none)(hne:l≠it)(hl:s.heap.IsList l items)(hit:s.heap.IsRevIter it l ((items.size:Int)-1))(hn:items.size<=sizeLine){S:Addr}
   (hS:s.heap.get? S=some { cls:=.type "list",data:=.seq #[] }) (h1:S≠it) (h2:S≠l)
   (hR:∀s' acc' c',Moved [S,it] (fun a b=>b=a) s s'->s'.heap.get? S=some { cls:=.type "list",data:=.seq acc' c' }->ItemsOf (zps items) acc' items.size->R (.ok (.ret .none)) s') :
   wpAny (model prog w) A.in1 (Builtin.«list.__init__» ⟨[.ref S,.ref it],[]⟩) (fun fin s'=>match fin with
     | .done f=>R (.ok f) s'
     | .again c'=>c'.quiet=true/\codeAny (model prog w) A c' R s') (fun e s'=>R (.error e) s') s:=by
 show wpAny _ A.in1 (Builtin.List.listItems (.ref S) >>= fun old=>Builtin.List.listUpdate (.ref S) (fun _=>#[]) >>= fun _=>letGo old.toList.reverse >>= fun _=>Builtin.List.listExtendWith (.ref S) (.ref it) .none) _ _ s;unfold Builtin.List.listItems;refine z40 (z40 (wpAny_seqItems hS rfl (z5e ?_)));unfold Builtin.List.listUpdate;refine z40 (wpAny_updateSeq hS rfl (z40 (wpAny_letGo ?_)));have hS2:=z52 (Obj.mapSeq (fun _=>(#[]:Array Value))) hS rfl;have keep:∀b o,b≠S->s.heap.get? b=some o->(s.heap.update S (Obj.mapSeq (fun _=>(#[]:Array Value)))).get? b=some o:=fun b o hb e=>(z5q _ _ (z5x hb)).trans e;refine zlp hh hne (hl.at fun o e=>keep l o (z5x h2) e) (hit.at fun o e=>keep it o (z5x h1) e) hn hS2 h1 h2 fun s' acc' c' m hs ha=>hR s' acc' c' ?_ hs ha;exact Moved.trans (fun _ _ _ p q=>q.trans p) ((Moved.refl (wr:=[S,it]) (G:=fun a b=>b=a) (s:=s) fun _=>rfl).then_heap (z45 _) fun b o hb e=>keep b o (fun z=>hb (by simp[z])) e) m
theorem zhk{E:zVP}{Q:zVP}(hh:A.handled=none)(hne:l≠it)(hl:s.heap.IsList l items)(hit:s.heap.IsRevIter it l ((items.size:Int)-1))(hn:items.size<=sizeLine)
   (hQ:∀s' acc' c',Moved [s.heap.objs.size,it] (fun a b=>b=a) { s with heap:=s.heap.push { cls:=.type "list",data:=.seq #[] } } s'->s'.heap.get? s.heap.objs.size=some { cls:=.type "list",data:=.seq acc' c' }->ItemsOf (zps items) acc' items.size->Q (.ref s.heap.objs.size) s') :
   wpAny (model prog w) A (call (.type "list") [.ref it]) Q E s:=by
 obtain⟨o1,e1,_⟩:=id hl;obtain⟨o2,e2,_⟩:=id hit;refine callType_codes (Q₁:=fun obj s₁=>obj=.ref s.heap.objs.size/\s₁={ s with heap:=s.heap.push { cls:=.type "list",data:=.seq #[] } }) F.called_list (F.typeCall_list_1 _) F.entry_list_init (code_list_new _ ⟨rfl,rfl⟩) fun obj s₁ h₁=>?_;obtain⟨rfl,rfl⟩:=h₁;have hS:(s.heap.push { cls:=.type "list",data:=.seq #[] }).get? s.heap.objs.size=some { cls:=.type "list",data:=.seq #[] }:=z5u _ rfl;refine⟨⟨_,hS,rfl⟩,F.args_list_init_2 _ _,zqe (A:=A.in1) hh hne (hl.at fun o e=>z42 _ e) (hit.at fun o e=>z42 _ e) hn hS ?_ ?_ fun s' acc' c' m hs ha=>⟨rfl,hQ s' acc' c' m hs ha⟩⟩
 · exact fun z=>z6k _ (z▸z5c e2)
 · exact fun z=>z6k _ (z▸z5c e1)
end
section
variable {X:Cx}{e:Expr}{te:TE}{f:E}{p p2 pos pos2:Pos}
theorem zhv:bootBuiltins "reversed"=some (.type "reversed"):=by with_unfolding_all rfl
theorem znj{its:List Value}{acc:Array Value}(h:ItemsOf (zps its.toArray) acc its.toArray.size):acc=its.reverse.toArray:=by
 apply Array.toList_inj.mp;obtain⟨h1,h2⟩:=h;rw[z46]at h1;have l1:acc.toList.length=its.length:=by rw[Array.length_toList];exact h1
 apply List.ext_getElem
 · rw[l1,z6j]
 · intro j q1 q2;have q3:j<its.length:=by rw[<-l1];exact q1
   have e1:acc[j]? = some acc.toList[j]:=by rw[<-Array.getElem?_toList];exact z44 q1
   have e2:=h2 j _ e1;unfold zps at e2;rw[z46,<-Array.getElem?_toList,z44 (by show its.length-1-j<its.length;omega)]at e2;have e3:=z5s e2;rw[<-e3,List.getElem_reverse]
def z32(K:zFr)(te:TE):TE:=fun σ H Q=>te σ H fun x H1=>∃a xs,x=.ref a/\SqL K H1 a xs/\∀l,H1 l=none->Q (.ref l) (upd H1 l (.lst xs.reverse))
theorem zlu(he:PE X e te)(hc:X.calm=true)(hm:X.mg "list"=none)(hm2:X.mg "reversed"=none)(hg:Gl X "list")(hg2:Gl X "reversed")
   (h1:starEach [.Call (.Name "reversed" p2) [e] [] pos2] X.env=(false,eval (.Call (.Name "reversed" p2) [e] [] pos2) X.env)::starEach [] X.env) (h2:starEach [e] X.env=(false,eval e X.env)::starEach [] X.env) :
   PE X (.Call (.Name "list" p) [.Call (.Name "reversed" p2) [e] [] pos2] [] pos) (z32 X.K te):=by
 intro pins s σ H Q I h;refine z6o (zid I hg hm zi2 ?_ (by decide) (by decide));refine z6u ?_ h1 rfl;rw[h1];show wpAny _ _ (spliced ((false,eval (.Call (.Name "reversed" p2) [e] [] pos2) X.env)::[])) _ _ s;refine PySem.Calls.spliced_cons ?_;refine z6o (zid I hg2 hm2 zhv ?_ (by decide) (by decide));have h':=znw he zsk h2 pos2 pins s σ H (fun vs H1=>match vs with
   | [x]=>∃a xs,x=.ref a/\SqL X.K H1 a xs/\∀l,H1 l=none->Q (.ref l) (upd H1 l (.lst xs.reverse))
   |_=>False) I h
 refine z6u (thn h' fun us s1 ⟨vs,H1,I1,r1,q1⟩=>?_) h2 rfl
 match vs,r1,q1 with
 | [x],r1,q1=>
   obtain⟨a,xs,rfl,hq,q⟩:=q1;obtain⟨u,rfl,ru⟩:=r1.one;cases ru;obtain⟨its,rv,pl,hz⟩:=I1.list hq;have hlen:=rv.length;have hl:s1.heap.IsList a its.toArray:=pl.isList;obtain⟨oa,ea,_⟩:=id hl;refine call_reversed_list hl ?_;refine PySem.Calls.spliced_nil ?_;have hne:a≠s1.heap.objs.size:=fun z=>z6k _ (z▸z5c ea);refine zhk (items:=its.toArray) (I.ok.hd hc) hne (hl.at fun o e=>z42 _ e) ⟨_,z5u _ rfl,rfl,rfl⟩ (by rw[z46];omega) fun s' acc' c' m hs ha=>?_;have es:=znj ha;subst es;obtain⟨h',g',d',t',o'⟩:=s';have e1:=m.gens;have e2:=m.drawn;have e3:=m.os;dsimp only at e1 e2 e3 hs;subst e1 e2 e3;have sz:(s1.heap.push (revObj a ((its.toArray.size:Int)-1))).objs.size=s1.heap.objs.size+1:=z8k ..;have kp:∀b o,s1.heap.get? b=some o->h'.get? b=some o:=fun b o e=>by have lt:=z5c e;refine m.heap b o ?_ (z42 _ (z42 _ e));simp only[sz,z5z,z8r,or_false,not_or];exact⟨z5n (Nat.lt_succ_of_lt lt),z5n lt⟩
   rw[sz]at hs;refine⟨.ref (s1.heap.objs.size+1),_,I1.laid (t':=t') (h':=h') kp (z7c _) (show ObjOk X.prog X.w _ h' _ (.lst xs.reverse) from⟨by rw[z6j];exact hz,its.reverse,c',rv.reverse,hs⟩),?_,q _ (I1.hok.fresh (z7c _))⟩;show Value.ref _=Value.ref _;rw[sz]
def zc8(f:E):E:=fun ev S=>(f ev S).bind fun p=>match p.1 with
 | .lst ds=>some (.lst ds.reverse,p.2)
 |_=>none
theorem zl5(hm:X.mg "list"=none)(hm2:X.mg "reversed"=none)(he:FE X e f)(hc:X.calm=true:=by rfl)(hg:Gl X "list":=by rfl)(hg2:Gl X "reversed":=by rfl)
   (h1:starEach [.Call (.Name "reversed" p2) [e] [] pos2] X.env=(false,eval (.Call (.Name "reversed" p2) [e] [] pos2) X.env)::starEach [] X.env:=by exact qm rfl) (h2:starEach [e] X.env=(false,eval e X.env)::starEach [] X.env:=by exact qm rfl) :
   FE X (.Call (.Name "list" p) [.Call (.Name "reversed" p2) [e] [] pos2] [] pos) (zc8 f) :=
 j0 (zlu he hc hm hm2 hg hg2 h1 h2) fun σ H Q h=>by
   obtain⟨ρ,ev,S,d,S',hE,hS,hf,k⟩:=h;obtain⟨⟨x,S1⟩,q1,hf⟩:=z5 hf;cases x with
   | lst ds=>
     cases hf;refine⟨ρ,ev,S,_,S1,hE,hS,q1,fun v ρ1 H1 E1 hS1 r1=>?_⟩;obtain⟨b,us,rfl,t,r⟩:=r1.refL;exact⟨b,us,rfl,t.sq,fun l hl=>k _ ρ1 _ (E1.trans (yw hS1 _ hl)) (hS1.new _ hl) (Rep.lst (s:=hS1) hl r.reverse)⟩
   |_=>cases hf
end
structure OwnIs (K:zFr) (C:Addr):Prop where
 hg:plainGet K C "__class__"=true
 hd:hasDictIn K C=true
 ha:findIn K (.ref C) "__class__"=some (some (.builtin "object.__class__"))
 hn:specialIn K (.builtin "object.__class__") "__get__"=some (some (.builtin "getset_descriptor.__get__"))
 ht:takesIn K (.builtin "object.__class__")=some true
 hm:mroIn K C (.type "object")=some true
def IsOwn(K:zFr)(mg:zMg)(c d:Str)(b:Bool):Prop:=∃C D,mg c=some (.ref C)/\mg d=some (.ref D)/\OwnIs K C/\kitOne K (.ref C) (.ref D)=some b
def zja(c d:Str)(b:Bool)(S:Sto):List D->Option D
 | [.obj i,.fn y]=>(match S[i]? with
   |some (.ins c' _)=>if c'=c/\y=d then some (.bl b)else none
   |_=>none)
 |_=>none
section
variable {X:Cx}{K:Frag}{mg:zMg}{e:Expr}{es:List Expr}{g:As}{p pos:Pos}{c d:Str}{b:Bool}
def z3k(K:zFr):List V->Hp->VK->Prop:=fun xs H Q=>∃a C dx fs D b,xs=[.ref a,.ref D]/\H a=some (.ins C dx fs)/\OwnIs K C/\kitOne K (.ref C) (.ref D)=some b/\Q (.bl b) H
theorem zru:CallR X (.builtin "isinstance") (z3k X.K):=by
 intro pins s σ H xs us Q I r h;obtain⟨a,C,dx,fs,D,b,rfl,ha,ho,hk,q⟩:=h;obtain⟨u1,u2,rfl,r1,r2⟩:∃u1 u2,us=[u1,u2]/\RelV (.ref a) u1/\RelV (.ref D) u2:=by
   cases r with
   | cons p q=>
     cases q with
     |cons p' q'=>cases q';exact⟨_,_,rfl,p,p'⟩
 cases(show u1=Value.ref a from r1);cases(show u2=Value.ref D from r2);obtain⟨mA,O,_⟩:=zg4 I.hok ha;obtain⟨od,oi,_⟩:=O.look;exact kia_one (kitx_own ho.hg ho.hd ho.ha ho.hn ho.ht ho.hm) I.kIn oi hk (fun z=>nomatch z) fun tk=>⟨.bl _,H,I.tok tk,rfl,q⟩
theorem zts(h:IsOwn K mg c d b):zs6 K mg (z3k K) (zja c d b):=by
 intro ρ H S xs ds dd Q hS r e k;unfold zja at e;split at e
 · split at e
   · rename_i c' fs hi;split at e
     · rename_i hc;cases e;obtain⟨rfl,rfl⟩:=hc;obtain⟨C,D,m1,m2,ho,hk⟩:=h;obtain⟨v,w,rfl,r1,r2⟩:=two r;unfold Rep at r1 r2;obtain⟨a,rfl,ha⟩:=r1;obtain⟨A,rfl,hA⟩:=r2;obtain⟨C',dx,vs,m3,hH,_⟩:=hS.ob _ _ a hi ha;rw[m1]at m3;cases m3;rw[m2]at hA;cases hA;exact⟨a,C,dx,vs,D,b,rfl,hH,ho,hk,k _ H (Ext.refl _ _) hS rfl⟩
     · cases e
   · cases e
 · cases e
theorem zow(h:IsOwn X.K X.mg c d b)(hm:X.mg "isinstance"=none)(ha:FA X (e::es) g)(hg:Gl X "isinstance":=by rfl)(he:starEach (e::es) X.env=(false,eval e X.env)::starEach es X.env:=by exact qm rfl)(hpl:(backTo pos (starEach es X.env)).any (·.1)=false:=by exact jy rfl) :
   FE X (.Call (.Name "isinstance" p) (e::es) [] pos) (eA (zja c d b) g) :=
 zk3 zru (zts h) hm (by with_unfolding_all rfl) ha hg (by decide) (by decide) he hpl
variable {h:Heap}
theorem has_own(KX:K.In h)(G:h.Ns mainGlobals mg){c d:Str}{C D:Addr}{b:Bool}(a:nsIn K mainGlobals c=some (some (.ref C)))(a':nsIn K mainGlobals d=some (some (.ref D)))(h1:plainGet K C "__class__"=true)(h2:hasDictIn K C=true)
   (h3:findIn K (.ref C) "__class__"=some (some (.builtin "object.__class__"))) (h4:specialIn K (.builtin "object.__class__") "__get__"=some (some (.builtin "getset_descriptor.__get__"))) (h5:takesIn K (.builtin "object.__class__")=some true) (h6:mroIn K C (.type "object")=some true)
   (q:kitOne K (.ref C) (.ref D)=some b):IsOwn K mg c d b:=⟨C,D,mg_of KX G a,mg_of KX G a',⟨h1,h2,h3,h4,h5,h6⟩,q⟩
end
section
variable {X:Cx}{o:Expr}{f:E}{pos apos:Pos}{k:Nat}{c m:Str}{g:GR}
theorem zb4(mt:RMth X.prog X.w X.K X.mg X.base k c m g)(hr:Room k X.A)(ho:FE X o f){pl:Sem Bool}
   (ht:eval (.Call (.Attribute o m apos) [] [] pos) X.env=(do
     let ov <-eval o X.env
     standAt apos.atName
     let(f,first) <-holding [ov] (getMethod ov m pl)
     callWith pos f first (backTo pos (starEach [] X.env)) (backToKw pos (keywordEach [] X.env))):=by rfl) :
   RE X (.Call (.Attribute o m apos) [] [] pos) (zch c m g f aN):=by
 obtain⟨C,fa,fd,ps,ds,dvs,dds,gg,F,hm,hc,hme,hb,hd,hdd,hgg⟩:=mt.ex;intro pins s σ H E Q hx I t;obtain⟨ρ,ev,S,nm,S',hE,hS,hf,CC,hC,kk⟩:=t;obtain⟨⟨y,S1⟩,q1,hf1⟩:=z5 hf;obtain⟨⟨i,fs⟩,q2,hf2⟩:=z5 hf1;dsimp only at hf2 q2;split at hf2
 · rename_i hl;obtain⟨rfl,hi⟩:=zcy q2;have h0:=ho pins s σ H (fun x H1=>∃b dx fs,x=.ref b/\H1 b=some (.ins C dx fs)/\fs.lookup m=none/\spR X.K X.mg gg ([x]++dvs) H1 (fun _ _=>False) E) I ⟨ρ,ev,S,_,S1,hE,hS,q1,fun v ρ1 H1 E1 hS1 r1=>by
     obtain⟨b,C',dx,vs,rfl,hb1,hm',hb2,hb3⟩:=zeq hS1 hi r1;have ec:C'=C:=by rw[hm]at hm';cases hm';rfl
     subst ec;exact⟨b,dx,vs,rfl,hb2,zck hb3.1 hl,ρ1,[.obj i]++dds,S1,nm,S',(RepL.cons r1 RepL.nil).append (hdd ρ1 H1),hS1,hgg [.obj i] S1 _ hf2,CC,hC,fun e ρ' H' E' hS'=>kk e ρ' H' (E1.trans E') hS'⟩⟩
   refine z7y (pl:=pl) (thn h0 fun u s1 ⟨x,H1,I1,rx,b,dx,fs,ex,ea,l,q⟩=>?_) ht;subst ex;cases(show u=Value.ref b from rx);refine zdl I1 ea hc hme l ?_;refine z79 (first:=[.ref b]) I1.kIn hme.kp ?_;refine thn (z4c (us:=[.ref b]) (vs:=[.ref b]) F hr hb hd I1 (fun e s' hc=>hx.pass I1 hc) (.cons rfl .nil) q) fun v s1 q=>?_;obtain⟨_,_,_,_,q⟩:=q;exact q.elim
 · cases hf2
end
end F
namespace F
open PySem L2 PySem.Spec PyProof.Rows
section
open PySem.SeqAt
open PySem.AutoSeq1 (wpAny_loadPart')
open PySem.MeetsSeq PySem.MeetsSeq2 PySem.MeetsSeq3
end
section
variable {prog:Program}{w:World}{A:Around}{E:zVP}{s:Shared}
end
section
open Classical
def zat(a:Nat)(us:List D)(c:B)(g:E)(fr:Ev):List D->Sto->Option (List D×Sto)
 | [],S=>if S[a]? = some (.lst us)then some ([],S)else none
 |d::ds,S=>if S[a]? = some (.lst us)then (c (some d::fr) S).bind fun p=>if p.1=true then (g (some d::fr) p.2).bind fun q=>(zat a us c g fr ds q.2).bind fun r=>some (q.1::r.1,r.2)else zat a us c g fr ds p.2 else none
end
theorem zpa{a:Nat}{us:List D}{c:B}{g:E}{fr:Ev}{ds:List D}{S:Sto}{r:List D×Sto}(h:zat a us c g fr ds S=some r):S[a]? = some (.lst us):=by
 cases ds with
 | nil=>
   unfold zat at h;split at h
   · assumption
   · cases h
 | cons d ds=>
   unfold zat at h;split at h
   · assumption
   · cases h
theorem zgh{a:Nat}{us:List D}{c:B}{g:E}{fr:Ev}{S:Sto}(h:S[a]? = some (.lst us)):zat a us c g fr [] S=some ([],S):=by unfold zat;rw[z5o h]
theorem zfi{a:Nat}{us:List D}{c:B}{g:E}{fr:Ev}{d:D}{ds:List D}{S:Sto}(h:S[a]? = some (.lst us)):zat a us c g fr (d::ds) S=(c (some d::fr) S).bind fun p=>if p.1=true then (g (some d::fr) p.2).bind fun q=>(zat a us c g fr ds q.2).bind fun r=>some (q.1::r.1,r.2)else zat a us c g fr ds p.2:=by rw[zat,z5o h]
end F
namespace Srt
open PySem PyProof.Rows
section
variable {blt:Keyed->Keyed->Bool}
def le(blt:Keyed->Keyed->Bool)(x y:Keyed):Prop:=blt y x=false
structure Mg (blt:Keyed->Keyed->Bool) (T O A B:List Keyed):Prop where
 pa:(O++A).Pairwise (le blt)
 pb:(O++B).Pairwise (le blt)
 pm:(O++(A++B)).Perm T
variable {T O A B C:List Keyed}
def ix(a:Array Keyed)(i:Nat):Keyed:=(a[i]?).getD (.none,.none)
variable {a b:Array Keyed}{i j k:Nat}
end
section
variable {prog:Program}{w:World}{A:Around}{E:zVP}{s:Shared}{blt:Keyed->Keyed->Bool}{U:Keyed->Prop}{kd:SortKind}{st:SortSt}{a b:Array Keyed}
structure At (blt:Keyed->Keyed->Bool) (a b out:Array Keyed) (ia ib:Nat):Prop where
 ha:ia+1<a.size
 hb:ib<b.size
 mg:Mg blt (a.toList++b.toList) out.toList (a.toList.drop ia) (b.toList.drop ib)
variable {out:Array Keyed}{ia ib k:Nat}
end
section
variable {prog:Program}{w:World}{A:Around}{E:zVP}{s:Shared}{blt:Keyed->Keyed->Bool}{U:Keyed->Prop}{kd:SortKind}{st:SortSt}{a b:Array Keyed}{pre X Y post:List Keyed}
theorem z4h(irr:∀x,blt x x=false)(sx:X.Pairwise (le blt)){j l:Nat}(hl:l<X.length)(hj:j<=l):le blt (X[j]'(z65 hj hl)) X[l]:=by
 rcases z7z j l with q | q
 · exact(List.pairwise_iff_getElem.mp sx) j l _ hl q
 · cases Nat.le_antisymm hj q;exact irr _
end
section
variable {prog:Program}{w:World}{A:Around}{E:zVP}{s:Shared}{blt:Keyed->Keyed->Bool}{U:Keyed->Prop}{kd:SortKind}{st:SortSt}{T:List Keyed}
theorem z3e{n:Nat}(h:1<n):n-2+1<n:=by omega
end
def bk(kc:Keyed->List Int)(x y:Keyed):Bool:=decide (kc x<kc y)
end Srt
namespace F
open PySem L2 PySem.Spec PySem.Calls PyProof.Rows PySem.W
abbrev Src:=Ev->Sto->Option ((List D×Option Nat)×Sto)
def okG(us:List D):Option Nat->Sto->Prop
 |none,_=>True
 |some a,S=>S[a]? = some (.lst us)
def zc9(us:List D)(o:Option Nat)(c:B)(g:E)(fr:Ev):List D->Sto->Option (List D×Sto):=match o with
 |none=>zpb c g fr
 |some a=>zat a us c g fr
section
variable {us:List D}{o:Option Nat}{c:B}{g:E}{fr:Ev}
theorem zrs{ds:List D}{S:Sto}{r:List D×Sto}(h:zc9 us o c g fr ds S=some r):okG us o S:=by
 cases o with
 |none=>trivial
 |some a=>exact zpa h
theorem zo9{S:Sto}(h:okG us o S):zc9 us o c g fr [] S=some ([],S):=by
 cases o with
 |none=>rfl
 |some a=>exact zgh (c:=c) (g:=g) (fr:=fr) h
theorem zma{d:D}{ds:List D}{S:Sto}(h:okG us o S):zc9 us o c g fr (d::ds) S=(c (some d::fr) S).bind fun p=>if p.1=true then (g (some d::fr) p.2).bind fun q=>(zc9 us o c g fr ds q.2).bind fun r=>some (q.1::r.1,r.2)else zc9 us o c g fr ds p.2:=by
 cases o with
 |none=>rfl
 |some a=>exact zfi h
end
def zv4(K:Frag)(mg:zMg)(J:It)(us:List D)(o:Option Nat)(ρ1:List Addr)(H1:Hp):Prop:=∀ρ' H' S',Ext ρ1 H1 ρ' H'->StOk K mg ρ' H' S'->okG us o S' ->
 (∀i d,us[i]? = some d->J.go i H'/\∀xv H5,J.yld i H' xv H5->H5=H'/\Rep K mg ρ' H' d xv)/\∀i,us.length<=i->J.stop i H'
def wiS(X:Cx)(f:Src):TI:=fun σ H R=>∃ρ ev S us o S1,EnvR X.K X.mg ρ H ev σ/\StOk X.K X.mg ρ H S/\f ev S=some ((us,o),S1)/\∀J ρ1 H1,Ext ρ H ρ1 H1->StOk X.K X.mg ρ1 H1 S1->zv4 X.K X.mg J us o ρ1 H1->(∀pins σ s,Inv X pins σ H1 s->us.length<=sizeLine)->R J H1
def zwh(X:Cx)(tg l:Expr)(f:Src):Prop:=PI X tg l (wiS X f)
def z0k(X X':Cx)(us:List D)(o:Option Nat)(cn:B)(g:E)(fre:Ev)(t:L2.St)(fp:List Addr)(tn:Nat->Heap->Prop)(Dl:Addr)(ρ1:List Addr)(H2:Hp)(ds:List D)(Sf:Sto)(m:Nat)(st:Shared):Prop :=
 ∃(i:Nat) (ρ':List Addr) (H':Hp) (ys:List V) (its:List Value) (acc rest:List D) (Si:Sto) (w:Option V),m=us.length-i/\i<=us.length/\Inv X' [] (w::t) H' st/\tn i st.heap/\(∀b∈fp,H' b=none)/\H' Dl=none/\st.heap.PlainList Dl (List.toArray its)/\Vals ys its /\
   Ext ρ1 H2 ρ' H'/\StOk X.K X.mg ρ' H' Si/\RepL X.K X.mg ρ' H' acc ys/\acc.length<=i/\zc9 us o cn g fre (us.drop i) Si=some (rest,Sf)/\ds=acc++rest
section
variable {X:Cx}{pins:zAO}{σ:L2.St}{H H2:Hp}{s s2:Shared}{scope:Scope}{x:Str}{N':List Str}{fr:List Nat}{fp:List Addr}{ρ ρ1:List Addr}{ds us:List D}{S S1 S2:Sto}{o:Option Nat}
def Fin(X:Cx)(s2:Shared)(H2:Hp)(fp:List Addr)(ρ1:List Addr)(ds:List D)(S2:Sto)(use:Option (Value->Sem Unit))(Q:zVP):Prop :=
 ∀(Dl C:Addr) (s4:Shared) (H':Hp) (ρ':List Addr) (mm:zMg) (ys:List V) (its:List Value) (nn:Nat),s2.heap.objs.size<=Dl->Dl<=C->Dl≠C->s4.heap.Ns C mm->H' C=none->Un (frs X.stack) fp H2 H' s2.heap s4.heap->HOk X.prog X.w H' s4.heap->s4.os=s2.os->AllBare s4.gens ->
   s4.heap.get? Dl=some { cls:=.type "list",data:=.seq (List.toArray its) nn }->H' Dl=none->Vals ys its->RepL X.K X.mg ρ' H' ds ys->ys.length<=sizeLine->Ext ρ1 H2 ρ' H'->StOk X.K X.mg ρ' H' S2->compPost (model X.prog X.w) X.A X.xe use Q (.ref Dl) C (.ok .next) s4
theorem zo8{elt l:Expr}{ifs:List Expr}{px pos:Pos}{g:E}{cn:B}{ev:Ev}{J:It}{it:Addr}{tn:Nat->Heap->Prop}{use:Option (Value->Sem Unit)}{Q:zVP}(c:CompOk X scope x N' fr)(hc:X.calm=true)
   (hif:∀C,FT (yn X (x::N') scope s2 H2 C fp) ifs cn) (helt:∀C,FE (yn X (x::N') scope s2 H2 C fp) elt g)
   (I2:Inv X pins σ H2 s2) (T:Turn X.prog X.w X.K (.Name x px) J fp it tn) (st2:tn 0 s2.heap) (f2:∀b∈fp,zpu X pins H2 b) (hE1:EnvR X.K X.mg ρ1 H2 ev σ) (hS1:StOk X.K X.mg ρ1 H2 S1) (src:zv4 X.K X.mg J us o ρ1 H2) (hz0:us.length<=sizeLine)
   (q2:zc9 us o cn g (fr.map (zk4 ev)) us S1=some (ds,S2)) (fin:Fin X s2 H2 fp ρ1 ds S2 use Q) :
   wpAny (model X.prog X.w) X.A (newList []) (fun acc s₃=>wpAny (model X.prog X.w) X.A (newFunctionEnv scope X.env.globals (zin X.env.cells scope.names []) [] X.env.qual none .none (some X.env)) (fun cenv s₄=>
       codeAny (model X.prog X.w) X.A (.compStart (.ListComp elt [⟨.Name x px,l,ifs,0⟩] scope pos) 0 (.ref it) acc { cenv with scope:=relabel scope X.env }) (compPost (model X.prog X.w) X.A X.xe use Q acc cenv.locals) s₄) X.xe s₃) X.xe s2:=by
 have hcell:∀y∈scope.names,y.2≠.cell:=fun y hy=>(c.chk y hy).1;refine z62 (wpAny_newFunctionEnv hcell (by intro y hy;simp at hy) (fun h₁ hns₁ hsb₁=>?_) c.kind);dsimp only at hns₁ hsb₁ ⊢;generalize hH2:s2.heap.push { cls:=.type "list",dict:=none,data:=.seq ([]:List Value).toArray }=G2 at hns₁ hsb₁ ⊢;have hC:G2.objs.size=s2.heap.objs.size+1:=by rw[<-hH2,z8k]
 have hDC:s2.heap.objs.size≠G2.objs.size:=by rw[hC];exact z5n (z8q _)
 have hCle:s2.heap.objs.size<=G2.objs.size:=by rw[hC];exact z7c _
 have old:∀b o,s2.heap.get? b=some o->h₁.get? b=some o:=fun b o e=>hsb₁.extBut b o (by rw[hC];exact z5n (Nat.lt_succ_of_lt (z5c e))) (z42 _ (hH2▸z42 _ e));have hacc:h₁.PlainList s2.heap.objs.size #[]:=⟨_,hsb₁.extBut _ _ hDC (z42 _ (hH2▸z5u _ rfl))⟩
 generalize hDl:s2.heap.objs.size=Dl at hDC hCle hacc;generalize hCC:G2.objs.size=C at hDC hCle hns₁ hsb₁ hC ⊢;have hfl:∀b∈fp,b<Dl:=fun b hb=>by obtain⟨o,e,_⟩:=T.obj 0 _ st2 b hb;rw[<-hDl];exact z5c e
 have hHD:H2 Dl=none:=I2.hok.fresh (by rw[hDl];exact z45 _);have hDfs:Dl∉frs X.stack:=fun z=>by
   have z':=I2.stkFree Dl z;rcases z5z.mp (I2.stkSub Dl z)with e | e
   · have:=I2.lt;rw[hDl,<-e]at this;exact z6k _ this
   · exact I2.nofs (by rw[hDl];exact z45 _) e
 generalize hX':yn X (x::N') scope s2 H2 C fp=X';have I3:Inv X' [] (none::fr.map (zhx σ)) H2 { s2 with heap:=h₁,toks:=s2.toks+([]:List (Str×Value)).length }:=hX'▸c.start I2 f2 (by rw[hDl];exact hfl) (by rw[hDl];exact hCle) old hns₁;have hEf:EnvR X.K X.mg ρ1 H2 (none::fr.map (zk4 ev)) (none::fr.map (zhx σ)):=by
   refine⟨by simp,fun i d q=>?_⟩;cases i with
   |zero=>simp at q
   | succ i=>
     have q:(fr.map (zk4 ev))[i]? = some (some d):=by simpa using q
     rw[z50]at q;cases ej:fr[i]? with
     |none=>rw[ej]at q;cases q
     | some jj=>
       rw[ej]at q;have q:zk4 ev jj=some d:=by simpa using q
       have hv:ev[jj]? = some (some d):=by
         unfold zk4 at q;split at q
         · rename_i o ho;rw[ho,q]
         · cases q
       obtain⟨v,e1,r⟩:=hE1.at_ jj d hv;refine⟨v,?_,r⟩;show(fr.map (zhx σ))[i]? = some (some v);rw[z50,ej];show some (zhx σ jj)=_;unfold zhx;rw[e1]
 have eA:X'.A=X.A:=by rw[<-hX'];rfl
 have eP:X'.prog=X.prog:=by rw[<-hX'];rfl
 have eW:X'.w=X.w:=by rw[<-hX'];rfl
 have eK:X'.K=X.K:=by rw[<-hX'];rfl
 have eM:X'.mg=X.mg:=by rw[<-hX'];rfl
 have eEx:X'.ex=fp:=by rw[<-hX'];rfl
 have eS0:X'.s₀=s2:=by rw[<-hX'];rfl
 have eH0:X'.H₀=H2:=by rw[<-hX'];rfl
 have eFs:X'.fs=frs X.stack:=by rw[<-hX'];rfl
 have eL:X'.env.locals=C:=by rw[<-hX'];rfl
 have ePn:X'.pn=[]:=by rw[<-hX'];rfl
 have eEnv:X'.env=compEnvC scope (zin X.env.cells scope.names []) C X.env:=by rw[<-hX'];rfl
 have eCalm:X'.calm=true:=by rw[<-hX'];exact hc
 have eXe:X'.xe=fun _ _=>False:=by rw[<-hX'];rfl
 have pgx:PG X' (.Name x px) (zif 0):=by rw[<-hX'];exact zgz c.nd rfl (.inl (lookup_relabel_local c.hx)) (.inr (lookup_relabel_local c.hx))
 have fel:FE X' elt g:=hX'▸helt C;have ftl:FT X' ifs cn:=hX'▸hif C;have cellLt:∀y a,X'.env.cells.lookup y=some a->a<Dl:=fun y a e=>by rw[eEnv]at e;obtain⟨v,q⟩:=I2.cell y a (zej (fun _ _ h=>by cases h) y a e);rw[<-hDl];exact q.lt
 have stat:∀{H':Hp}{pl:zAO},(∀b∈fp,H' b=none)->(∀p∈pl,∀b∈fp,p.1≠b)->∀b∈fp,zpu X' pl H' b:=fun {H' pl} hn hp b hb=>
   ⟨hn b hb,by rw[eL];exact z5n (z48 (hfl b hb) hCle),by rw[eFs];intro z;rcases z5z.mp (I2.stkSub b z)with e | e;exact(f2 b hb).2.1 e;exact(f2 b hb).2.2.1 e,.inl (by rw[eEx];exact hb),fun y a e=>by
     rw[eEnv]at e;exact(f2 b hb).2.2.2.2.1 y a (zej (fun _ _ h=>by cases h) y a e),fun p hpp=>hp p (by rw[ePn]at hpp;simpa using hpp) b hb⟩
 have loop:∀s₃:Shared,s₃={ s2 with heap:=h₁,toks:=s2.toks+([]:List (Str×Value)).length } ->
     codeAny (model X.prog X.w) X.A (.compLoop (.ListComp elt [⟨.Name x px,l,ifs,0⟩] scope pos) 0 (.ref it) (.ref Dl) (compEnvC scope (zin X.env.cells scope.names []) C X.env))
       (compPost (model X.prog X.w) X.A X.xe use Q (.ref Dl) C) s₃:=by
   rintro s₃ rfl;refine codeAny_compLoop_tests (z0k X X' us o cn g (fr.map (zk4 ev)) (fr.map (zhx σ)) fp tn Dl ρ1 H2 ds S2) ?_ (us.length-0)
     ⟨0,ρ1,H2,[],[],[],ds,S1,none,rfl,z5t _,I3,T.keep _ _ _ st2 (fun b hb o e=>old b o e),fun b hb=>(f2 b hb).1,hHD,hacc,.nil,Ext.refl _ _,hS1,RepL.nil,z45 _,q2,rfl⟩
   intro m st hI;generalize notedBy (model X.prog X.w) X.A (compEnvC scope (zin X.env.cells scope.names []) C X.env) (fun e s'=>compPost (model X.prog X.w) X.A X.xe use Q (.ref Dl) C (.error e) s')=EE;obtain⟨i,ρ',H',ys,its,acc,rest,Si,w,rfl,hi,I',tni,hfp',hD',⟨nn,hpl⟩,rv,E',hSi,ra,hal,hcl,hds⟩:=hI;have Ip:Inv X' [(Dl,{ cls:=.type "list",data:=.seq (List.toArray its) nn })] (w::fr.map (zhx σ)) H' st:=I'.pins_of fun p hp=>by rw[z5i.mp hp];exact⟨hpl,hD',by rw[eL];exact hDC,by rw[eFs];exact hDfs,fun v z=>by cases z⟩
   have hnp:∀p∈[(Dl,({ cls:=.type "list",data:=.seq (List.toArray its) nn }:Obj))],∀b∈fp,p.1≠b:=fun p hp b hb=>by rw[z5i.mp hp];exact z5x (z5n (hfl b hb))
   have gk:=zrs hcl;obtain⟨srcI,srcE⟩:=src ρ' H' Si E' hSi gk;by_cases hlt:i<us.length
   · rw[z6l hlt,zma gk]at hcl;obtain⟨⟨ok,Sc⟩,qc,hcl⟩:=z5 hcl;obtain⟨go,yl⟩:=srcI i _ (z44 hlt);have ti:=T.item X' eP eW eK eCalm i [(Dl,{ cls:=.type "list",data:=.seq (List.toArray its) nn })] st (w::fr.map (zhx σ)) H' EE Ip (stat hfp' hnp) tni go;rw[eA]at ti;refine thn ti fun r s4 ⟨u,hr,h4⟩=>?_;subst hr;dsimp only;show wpAny (model X.prog X.w) X.A (letOwnedTupleGo (.Name x px) (.ref it) u >>= fun _=>assign (.Name x px) (compEnvC scope (zin X.env.cells scope.names []) C X.env) u) _ _ _;refine z40 (thn h4 fun _ s5 ⟨xv,H5,I5,r5,y5,tn5,fp5⟩=>?_);obtain⟨eH5,rx0⟩:=yl _ _ y5;subst eH5;have I5':=I5.pinned (stat fp5 hnp) (T.obj _ _ tn5);have as5:=pgx _ s5 _ H5 _ u (fun σ' H'=>H'=H5/\σ'=(w::fr.map (zhx σ)).set 0 (some xv)) I5' r5 ⟨rfl,rfl⟩;rw[eP,eW,eA,eEnv,eXe]at as5;refine z7t as5 (fun _ s6 ⟨σ6,H6,I6,eH6,eσ6⟩=>?_) (fun _ _ z=>False.elim z);subst eH6 eσ6;have hE6:EnvR X.K X.mg ρ' H6 (some us[i]::fr.map (zk4 ev)) (some xv::fr.map (zhx σ)):=(hEf.mono E').set (i:=0) rx0;have tc6:=zy9 ftl (Q:=fun b H7=>b=ok/\∃ρ7,Ext ρ' H6 ρ7 H7/\StOk X.K X.mg ρ7 H7 Sc) I6 ⟨ρ',_,Si,ok,Sc,by rw[eK,eM];exact hE6,by rw[eK,eM];exact hSi,qc,fun ρ7 H7 E7 hS7=>⟨rfl,ρ7,E7,by rw[eK,eM]at hS7;exact hS7⟩⟩;rw[eP,eW,eA,eEnv,eXe]at tc6;refine z7t tc6 (fun ok' s6 ⟨H6,I6,eok,ρ6,E6,hS6⟩=>?_) (fun _ _ z=>False.elim z);subst eok;have hE6:=hE6.mono E6;have hpin6:=I6.pin (Dl,{ cls:=.type "list",data:=.seq (List.toArray its) nn }) (z5f _ (z6z _ (z5i.mpr rfl)));cases ok' with
     | false=>
       have hcl:zc9 us o cn g (fr.map (zk4 ev)) (us.drop (i+1)) Sc=some (rest,S2):=hcl;rw[z5l z58];have I8:Inv X' [] (some xv::fr.map (zhx σ)) H6 s6:=I6.pins_of fun p hp=>by cases hp
       have tn8:tn (i+1) s6.heap:=T.keep _ _ _ tn5 fun b hb o e=>(I6.pin (b,o) (z5f _ (z5f _ (zaf hb e)))).1;refine⟨us.length-(i+1),by omega,i+1,ρ6,H6,ys,its,acc,rest,Sc,_,rfl,by omega,I8,tn8,fun b hb=>?_,hpin6.2.1,⟨nn,hpin6.1⟩,rv,E'.trans E6,hS6,ra.mono E6,by omega,hcl,hds⟩;obtain⟨o,e,dd⟩:=T.obj _ _ tn5 b hb;exact(I6.pin (b,o) (z5f _ (z5f _ (zaf hb e)))).2.1
     | true=>
       rw[z5o rfl];have hcl:(g (some us[i]::fr.map (zk4 ev)) Sc).bind (fun q=>(zc9 us o cn g (fr.map (zk4 ev)) (us.drop (i+1)) q.2).bind fun r=>some (q.1::r.1,r.2))=some (rest,S2):=hcl;obtain⟨⟨yv,Sn⟩,qe,hcl⟩:=z5 hcl;obtain⟨⟨rest',Se⟩,qr,hcl⟩:=z5 hcl;cases hcl;have el6:=fel _ s6 _ H6 (fun v H7=>∃ρ7,Ext ρ6 H6 ρ7 H7/\StOk X.K X.mg ρ7 H7 Sn/\Rep X.K X.mg ρ7 H7 yv v) I6 ⟨ρ6,_,Sc,yv,Sn,by rw[eK,eM];exact hE6,by rw[eK,eM];exact hS6,qe,fun v ρ7 H7 E7 hS7 r7=>⟨ρ7,E7,by rw[eK,eM]at hS7;exact hS7,by rw[eK,eM]at r7;exact r7⟩⟩;rw[eP,eW,eA,eEnv,eXe]at el6;refine z7t el6 (fun u7 s7 ⟨v7,H7,I7,r7,ρ7,E7,hS7,rp7⟩=>?_) (fun _ _ z=>False.elim z);have hpin:=I7.pin (Dl,{ cls:=.type "list",data:=.seq (List.toArray its) nn }) (z5f _ (z6z _ (z5i.mpr rfl)));have hvl:=rv.length;have hral:=ra.length;refine wpAny_list_append_plain ⟨nn,hpin.1⟩ (fun h8 hp8 hsb8=>?_) (by rw[z46];omega);have I8:Inv X' [] (some xv::fr.map (zhx σ)) H7 { s7 with heap:=h8 }:=by
         have I7':Inv X' [] (some xv::fr.map (zhx σ)) H7 s7:=I7.pins_of fun p hp=>by cases hp
         exact I7'.turned (it:=Dl) (t':=s7.toks) (fun b o hb e=>(hsb8.2 b hb).trans e) hpin.2.1 (by rw[eL];exact hDC) (.inr (by rw[eS0,hDl];exact z45 _)) (fun y a e=>z5n (cellLt y a e)) (fun p hp=>by rw[ePn]at hp;cases hp)
       have tn8:tn (i+1) h8:=T.keep _ _ _ tn5 fun b hb o e=>by have:=(I7.pin (b,o) (z5f _ (z5f _ (zaf hb e)))).1;exact(hsb8.2 b (z5n (hfl b hb))).trans this
       refine⟨us.length-(i+1),by omega,i+1,ρ7,H7,ys++[v7],its++[u7],acc++[yv],rest',Sn,_,rfl,by omega,I8,tn8,fun b hb=>?_,hpin.2.1,?_,rv.append (.cons r7 .nil),(E'.trans E6).trans E7,hS7,((ra.mono E6).mono E7).append (RepL.cons rp7 RepL.nil),by simp;omega,qr,by simp[hds]⟩
       · obtain⟨o,e,dd⟩:=T.obj _ _ tn5 b hb;exact(I7.pin (b,o) (z5f _ (z5f _ (zaf hb e)))).2.1
       · rw[show(its++[u7]).toArray=its.toArray.push u7 by simp];exact hp8
   · have ei:i=us.length:=by omega
     have td:=T.done X' eP eW eK eCalm i [(Dl,{ cls:=.type "list",data:=.seq (List.toArray its) nn })] st (w::fr.map (zhx σ)) H' EE Ip (stat hfp' hnp) tni (srcE i (by omega));rw[eA]at td;refine thn td fun r s4 ⟨hr,I4⟩=>?_;subst hr;dsimp only;rw[z7s (by omega),zo9 gk]at hcl;cases hcl;rw[z5y]at hds;subst hds;obtain⟨mm,hns,_⟩:=id I4.loc;rw[eL]at hns;have hpin:=I4.pin (Dl,{ cls:=.type "list",data:=.seq (List.toArray its) nn }) (z5f _ (z5i.mpr rfl));have hHC:H' C=none:=by have:=I4.free;rw[eL]at this;exact this
     have bs:=I4.base;rw[eFs,eEx,eH0,eS0]at bs;have hok4:=I4.hok;rw[eP,eW]at hok4;have os4:=I4.os;rw[eS0]at os4;have hvl:=rv.length;have hral:=ra.length;exact fin Dl C s4 H' ρ' mm ys its nn (by rw[hDl];exact z45 _) hCle hDC hns hHC bs hok4 os4 I4.bare hpin.1 hD' rv ra (by omega) E' hSi
 exact codeAny_compStart_list (loop _ rfl) (T.self X.A 0 _ _ _ (T.keep _ _ _ st2 (fun b hb o e=>old b o e)) (loop _ rfl))
theorem zvq{iy:Nat}{yy:Str}{py:Pos}{EN:Ends}(I2:Inv X pins σ H2 s2)(f2:∀b∈fp,zpu X pins H2 b)(hN:X.N.Nodup)(hiy:X.N[iy]? = some yy)(hyy:Loc X.env.scope yy)(hfy:X.fn yy=true\/X.env.scope.names.lookup yy=some .local)
   (kk:∀l ys ρ' H',Ext ρ1 H2 ρ' H'->StOk X.K X.mg ρ' H' S2->H' l=none->RepL X.K X.mg ρ' H' ds ys->EN.nx (σ.set iy (some (.ref l))) (upd H' l (.lst ys))):Fin X s2 H2 fp ρ1 ds S2 (some (assign (.Name yy py) X.env)) (fun _ s'=>SP X pins EN .next s'):=by
 intro Dl C s4 H' ρ' mm ys its nn hDl2 hCle hDC hns hHC bs hok4 os4 bare4 hpin hD' rv ra hz E' hSi;have I9:Inv X pins σ H' s4:=I2.call' (s':=s4) os4 bs hok4 bare4 fun b hb=>by obtain⟨_,a1,a2,a3,a4,a5⟩:=f2 b hb;exact⟨a3,a1,a4,a5⟩
 have cl2:∀y a,X.env.cells.lookup y=some a->a<Dl:=fun y a e=>by obtain⟨v,q⟩:=I2.cell y a e;exact z48 q.lt hDl2
 have pl2:∀q∈X.pn++pins,q.1<Dl:=fun q hq=>z48 (z5c (I2.pin q hq).1) hDl2;have ll2:X.env.locals<Dl:=z48 I2.lt hDl2;have I10:Inv X pins σ (upd H' Dl (.lst ys)) s4:=Inv.track (its:=its) (n:=nn) I9 hD' hpin rv hz (.inr (z5p I2.sz hDl2)) (z5x (z5n ll2))
   (fun y a e=>z5n (cl2 y a e)) (fun q hq=>z5n (pl2 q hq))
 refine wpAny_assign_Name (zh2 I10 hN hiy hyy (v:=.ref Dl) rfl (fun s5 I5 ⟨aa,sb,ha⟩=>?_) hfy);have hCa:C≠aa:=by
   rcases ha with rfl | ha
   · exact z5x (z5n (z48 ll2 hCle))
   · exact z5x (z5n (z48 (cl2 _ _ ha) hCle))
 refine⟨mm,hns.sameBut sb hCa,fun h' hs'=>?_⟩;have hnC:upd H' Dl (.lst ys) C=none:=by rw[zz (z5x hDC)];exact hHC
 have I6:=I5.turned (it:=C) (t':=s5.toks) (h':=h') (fun b o hb e=>(hs'.2 b hb).trans e) hnC (z5x (z5n (z48 ll2 hCle))) (.inr (z5p I2.sz (z5p hDl2 hCle)))
   (fun y a e=>z5n (z48 (cl2 y a e) hCle)) (fun q hq=>z5n (z48 (pl2 q hq) hCle))
 exact⟨_,_,I6,kk Dl ys ρ' H' E' hSi hD' ra⟩
end
def zv7(f:E):Src:=fun ev S=>(f ev S).bind fun p=>match p.1 with
 | .lst us=>some ((us,none),p.2)
 | .tup us=>some ((us,none),p.2)
 | .obj a=>(match p.2[a]? with
   |some (.lst us)=>some ((us,some a),p.2)
   |_=>none)
 |_=>none
def zv6(f:E):Src:=fun ev S=>(f ev S).bind fun p=>match p.1 with
 | .int j=>if -(2^62)<=j/\j<2^62/\j<=(sizeLine:Int)then some ((j5 0 j.toNat,none),p.2)else none
 |_=>none
section
variable {X:Cx}{tg l:Expr}{f:E}
theorem z1c(hl:FE X l f):zwh X tg l (zv7 f):=by
 intro pins s σ H R I h;obtain⟨ρ,ev,S,us,o,S1,hE,hS,hf,k⟩:=h;obtain⟨⟨y,S2⟩,q1,hf⟩:=z5 hf;cases y with
 | lst us'=>
   cases hf;refine zjj hl pins s σ H R I ⟨ρ,ev,S,.lst us,S2,hE,hS,q1,fun v ρ1 H1 E1 hS1 r1=>?_⟩;obtain⟨p,vs,rfl,t1,rL⟩:=r1.refL;refine⟨p,rfl,⟨vs,t1.sq⟩,k _ ρ1 H1 E1 hS1 (fun ρ' H' S' E' hS' _=>⟨fun i d hd=>?_,fun i hi=>⟨vs,(t1.mono E').sq,by rw[<-rL.length];exact hi⟩⟩) fun _ _ _ J=>by obtain⟨_,_,_,z⟩:=J.list t1.sq;rw[rL.length];exact z⟩;obtain⟨xv,ex,rx⟩:=(rL.mono E').get hd;exact⟨⟨vs,xv,(t1.mono E').sq,ex⟩,fun u H5 ⟨e,y⟩=>⟨e,by have:=y vs (t1.mono E').sq;rw[ex]at this;cases this;exact rx⟩⟩
 | tup us'=>
   cases hf;refine zxx hl pins s σ H R I ⟨ρ,ev,S,.tup us,S2,hE,hS,q1,fun v ρ1 H1 E1 hS1 r1=>?_⟩;obtain⟨p,vs,rfl,t1,rL⟩:=r1.refT;refine⟨p,rfl,⟨vs,t1.sq⟩,k _ ρ1 H1 E1 hS1 (fun ρ' H' S' E' hS' _=>⟨fun i d hd=>?_,fun i hi=>⟨vs,(t1.mono E').sq,by rw[<-rL.length];exact hi⟩⟩) fun _ _ _ J=>by obtain⟨_,_,_,z⟩:=J.tuple t1.sq;rw[rL.length];exact z⟩;obtain⟨xv,ex,rx⟩:=(rL.mono E').get hd;exact⟨⟨vs,xv,(t1.mono E').sq,ex⟩,fun u H5 ⟨e,y⟩=>⟨e,by have:=y vs (t1.mono E').sq;rw[ex]at this;cases this;exact rx⟩⟩
 | obj a=>
   dsimp only at hf;split at hf
   · rename_i us' hau;cases hf;refine zjj hl pins s σ H R I ⟨ρ,ev,S,.obj a,S1,hE,hS,q1,fun v ρ1 H1 E1 hS1 r1=>?_⟩;unfold Rep at r1;obtain⟨p,rfl,hp⟩:=r1;obtain⟨vs,h1,r⟩:=hS1.ob _ _ p hau hp;refine⟨p,rfl,⟨vs,SqL.of h1⟩,k _ ρ1 H1 E1 hS1 (fun ρ' H' S' E' hS' ok=>?_) fun _ _ _ J=>by obtain⟨_,_,_,z⟩:=J.list (SqL.of h1);rw[r.length];exact z⟩;obtain⟨vs',h1',r'⟩:=hS'.ob _ _ p ok (E'.pre _ _ hp);refine⟨fun i d hd=>?_,fun i hi=>⟨vs',SqL.of h1',by rw[<-r'.length];exact hi⟩⟩;obtain⟨xv,ex,rx⟩:=r'.get hd;exact⟨⟨vs',xv,SqL.of h1',ex⟩,fun u H5 ⟨e,y⟩=>⟨e,by have:=y vs' (SqL.of h1');rw[ex]at this;cases this;exact rx⟩⟩
   · cases hf
 |_=>cases hf
theorem zw0{p2 p3:Pos}(hm:X.mg "range"=none)(hl:FE X l f)(hg:Gl X "range":=by rfl)(hst:starEach [l] X.env=[(false,eval l X.env)]:=by exact qm rfl):zwh X tg (.Call (.Name "range" p2) [l] [] p3) (zv6 f):=by
 intro pins s σ H R I h;obtain⟨ρ,ev,S,us,o,S1,hE,hS,hf,k⟩:=h;obtain⟨⟨y,S2⟩,q1,hf⟩:=z5 hf;cases y with
 | int j=>
   dsimp only at hf;split at hf
   · rename_i hj;cases hf;refine zh7 hg hm (za hl zc hst) hst pins s σ H R I ⟨ρ,ev,S,[.int j],S1,hE,hS,by simp only[aC,aN,q1,Option.bind_some],fun vs ρ1 H1 E1 hS1 r1=>?_⟩;unfold RepL at r1;obtain⟨v,r,rfl,r2,r3⟩:=r1;unfold RepL at r3;subst r3;have hlen:(j5 0 j.toNat).length=j.toNat:=by simp[j5]
     refine⟨j,by rw[show v=.int j from r2],hj.1,hj.2.1,k _ ρ1 H1 E1 hS1 (fun ρ' H' S' E' hS' _=>⟨fun i d hd=>?_,fun i hi=>by rw[hlen]at hi;exact hi⟩) fun _ _ _ _=>by rw[hlen];omega⟩;have hi:i<j.toNat:=by rw[<-hlen];exact(z4y.mp hd).1
     refine⟨hi,fun xv H5 ⟨e,y⟩=>⟨e,?_⟩⟩;have:d=.int (0+(i:Int)):=by simp only[j5,z50,List.getElem?_range hi,Option.map_some,z7w]at hd;exact hd.symm
     subst this;rw[y];rfl
   · cases hf
 |_=>cases hf
end
open Classical in
def eGd(p:Ev->Prop)(f:E):E:=fun ev S=>if p ev then f ev S else none
theorem zrr{p:Ev->Prop}{f:E}{ev:Ev}{S:Sto}{r:D×Sto}(h:eGd p f ev S=some r):p ev/\f ev S=some r:=by
 unfold eGd at h;split at h
 · rename_i e;exact⟨e,h⟩
 · cases h
theorem zzs{p:Ev->Prop}{f:E}{ev:Ev}{S:Sto}(h:p ev):eGd p f ev S=f ev S:=by unfold eGd;rw[z5o h]
def zdx(fr:List Nat)(f:Src)(c:B)(g:E):E:=fun ev S=>(f ev S).bind fun p=>(zc9 p.1.1 p.1.2 c g (fr.map (zk4 ev)) p.1.1 p.2).map fun q=>(.lst q.1,q.2)
def zfe(fr:List Nat)(f:Src)(c:B)(g:E):E:=fun ev S=>(f ev S).bind fun p=>(zc9 p.1.1 p.1.2 c g (fr.map (zk4 ev)) p.1.1 p.2).map fun q=>(.obj q.2.length,q.2++[.lst q.1])
section
variable {X:Cx}{scope:Scope}{x:Str}{N':List Str}{fr:List Nat}{elt l:Expr}{ifs:List Expr}{px pos py spos:Pos}{yy:Str}{f:Src}{g:E}{cn:B}{p:Ev->Prop}{iy:Nat}
def Blk(X:Cx)(x:Str)(N':List Str)(scope:Scope)(p:Ev->Prop)(P:Cx->Prop):Prop:=∀{pins σ H s ρ ev fp C},Inv X pins σ H s->EnvR X.K X.mg ρ H ev σ->p ev->(∀b∈fp,zpu X pins H b)->P (yn X (x::N') scope s H C fp)
theorem zxj{K:Frag}{mg:zMg}{ρ:List Addr}{H:Hp}{S:Sto}{l:Addr}{ys:List V}{ds:List D}(hS:StOk K mg ρ H S)(hn:H l=none)(ra:RepL K mg ρ H ds ys):Ext ρ H (ρ++[l]) (upd H l (.lst ys))/\StOk K mg (ρ++[l]) (upd H l (.lst ys)) (S++[.lst ds])/\Rep K mg (ρ++[l]) (upd H l (.lst ys)) (.obj S.length) (.ref l):=by have ea:=zco hS (.lst ys) hn;refine⟨ea,hS.add hn ⟨ys,jh,ra.mono ea⟩,?_⟩;unfold Rep;refine⟨l,rfl,?_⟩;rw[z5j (by rw[hS.len]<;>exact z45 _),hS.len];simp
theorem zzm{P:Cx->Prop}(new:Bool)(c:CompOk X scope x N' fr)(src:zwh X (.Name x px) l f)(hb:Blk X x N' scope p P)(hif:∀s₀ H₀ C ex,P (yn X (x::N') scope s₀ H₀ C ex)->FT (yn X (x::N') scope s₀ H₀ C ex) ifs cn)(helt:∀s₀ H₀ C ex,P (yn X (x::N') scope s₀ H₀ C ex)->FE (yn X (x::N') scope s₀ H₀ C ex) elt g)(hN:X.N.Nodup)
   (hsw:swapsWith (.ListComp elt [⟨.Name x px,l,ifs,0⟩] scope pos) (some (.Name yy py)) spos.line X.env=pure true:=by rfl)
   (hiy:X.N[iy]? = some yy:=by rfl) (hyy:Loc X.env.scope yy:=by first | exact Or.inl rfl | exact Or.inr rfl) (hfy:X.fn yy=true\/X.env.scope.names.lookup yy=some .local:=by first | exact .inl rfl | exact .inr rfl | assumption)
   (hc:X.calm=true:=by rfl) (hs:∀v,foldedSetIterable l X.env v=pure v:=by intro _;rfl) :
   FS X (.Assign [.Name yy py] (.ListComp elt [⟨.Name x px,l,ifs,0⟩] scope pos) spos) (qv iy (eGd p (if new then zfe fr f cn g else zdx fr f cn g))):=by
 intro pins s σ H EN I h;obtain⟨ρ,ev,S,oo,S',hE,hS,hf,k⟩:=h;obtain⟨⟨d,SS⟩,hf1,hf0⟩:=zcc hf;clear hf;cases hf0;obtain⟨hp,hf⟩:=zrr hf1;clear hf1;obtain⟨⟨us,o⟩,S1,ds,S2,q1,q2,hd⟩:∃(w:List D×Option Nat) (S1:Sto) (ds:List D) (S2:Sto),f ev S=some (w,S1)/\zc9 w.1 w.2 cn g (fr.map (zk4 ev)) w.1 S1=some (ds,S2)/\(if new then (d,SS)=(.obj S2.length,S2++[.lst ds])else (d,SS)=(.lst ds,S2)):=by
   cases new
   · obtain⟨⟨w,S1⟩,q1,hf⟩:=z5 hf;obtain⟨⟨ds,S2⟩,q2,hf⟩:=zcc hf;exact⟨w,S1,ds,S2,q1,q2,hf.symm⟩
   · obtain⟨⟨w,S1⟩,q1,hf⟩:=z5 hf;obtain⟨⟨ds,S2⟩,q2,hf⟩:=zcc hf;exact⟨w,S1,ds,S2,q1,q2,hf.symm⟩
 rw[exec_Assign_Name_used _ _ _ _ hsw];refine z40 (z7i (z40 ?_));show wpAny _ X.A (do let _ <-comprehension (.ListComp elt [⟨.Name x px,l,ifs,0⟩] scope pos) scope X.env _ (newList []) false (eval l X.env) (some (assign (.Name yy py) X.env))) _ _ s;refine z40 (z7t (wpAny_comprehension_free (use:=some (assign (.Name yy py) X.env)) (Q:=fun _ s'=>SP X pins EN .next s') rfl hs (zhi fun p hp e=>I.ok.has p.1 (.inl ((c.chk p hp).2.1 e))) c.kind (fun y hy e=>(c.chk y hy).2.2 e) ?_) (fun _ s' hq=>z5e (z5e hq)) fun _ _ e=>e);refine thn (src pins s σ H (fun J H1=>∃ρ1,Ext ρ H ρ1 H1/\StOk X.K X.mg ρ1 H1 S1/\zv4 X.K X.mg J us o ρ1 H1/\(∀pins σ s,Inv X pins σ H1 s->us.length<=sizeLine)) I ⟨ρ,ev,S,us,o,S1,hE,hS,q1,fun J ρ1 H1 E1 hS1 sk hz=>⟨ρ1,E1,hS1,sk,hz⟩⟩) fun v s1 h1=>thn h1 fun itv s2 h2=>?_;obtain⟨it,fp,tn,J,H2,e,I2,T,st2,f2,ρ1,E1,hS1,sk,hz⟩:=h2;subst e;have hE1:=hE.mono E1;refine zo8 c hc (fun C=>hif _ _ _ _ (hb I2 hE1 hp f2)) (fun C=>helt _ _ _ _ (hb I2 hE1 hp f2)) I2 T st2 f2 hE1 hS1 sk (hz _ _ _ I2) q2 (zvq I2 f2 hN hiy hyy hfy fun l ys ρ' H' E' hS' hn ra=>?_);cases new
 · cases hd;have ext:=E1.trans (E'.trans (yw hS' (.lst ys) hn));exact k _ ρ' _ ext (hS'.new _ hn) ((hE.mono ext).set (Rep.lst (s:=hS') hn ra) iy)
 · cases hd;obtain⟨ea,sa,rr⟩:=zxj hS' hn ra;have ext:=E1.trans (E'.trans ea);exact k _ _ _ ext sa ((hE.mono ext).set rr iy)
end
section
variable {X:Cx}{scope:Scope}{x:Str}{N':List Str}{fr:List Nat}{elt l:Expr}{ifs:List Expr}{px pos py spos:Pos}{yy:Str}{f:Src}{g:E}{cn:B}{iy:Nat}
theorem zza{st:Stmt}{f f':E}(h:FS X st (qv iy f))(m:∀ev S r,f' ev S=some r->f ev S=some r):FS X st (qv iy f'):=fun pins s σ H Q I ⟨ρ,ev,S,d,S',hE,hS,hf,k⟩=>h pins s σ H Q I ⟨ρ,ev,S,d,S',hE,hS,by
 obtain⟨r,h1,h2⟩:=zcc hf;unfold qv;rw[m _ _ _ h1];exact z6w some h2,k⟩
theorem zzc(new:Bool)(c:CompOk X scope x N' fr)(src:zwh X (.Name x px) l f)(hif:∀s₀ H₀ C ex,FT (yn X (x::N') scope s₀ H₀ C ex) ifs cn)(helt:∀s₀ H₀ C ex,FE (yn X (x::N') scope s₀ H₀ C ex) elt g)(hN:X.N.Nodup)
   (hsw:swapsWith (.ListComp elt [⟨.Name x px,l,ifs,0⟩] scope pos) (some (.Name yy py)) spos.line X.env=pure true:=by rfl)
   (hiy:X.N[iy]? = some yy:=by rfl) (hyy:Loc X.env.scope yy:=by first | exact Or.inl rfl | exact Or.inr rfl) (hfy:X.fn yy=true\/X.env.scope.names.lookup yy=some .local:=by first | exact .inl rfl | exact .inr rfl | assumption)
   (hc:X.calm=true:=by rfl) (hs:∀v,foldedSetIterable l X.env v=pure v:=by intro _;rfl):FS X (.Assign [.Name yy py] (.ListComp elt [⟨.Name x px,l,ifs,0⟩] scope pos) spos) (qv iy (if new then zfe fr f cn g else zdx fr f cn g)) :=
 zza (zzm (p:=fun _=>True) (P:=fun _=>True) new c src (fun _ _ _ _=>trivial) (fun _ _ _ _ _=>hif _ _ _ _) (fun _ _ _ _ _=>helt _ _ _ _) hN hsw hiy hyy hfy hc hs) fun _ _ _ h=>(zzs trivial).trans h
theorem zzb(iy:Nat)(c:CompOk X scope x N' fr)(src:zwh X (.Name x px) l f)(hif:∀s₀ H₀ C ex,FT (yn X (x::N') scope s₀ H₀ C ex) ifs cn)(helt:∀s₀ H₀ C ex,FE (yn X (x::N') scope s₀ H₀ C ex) elt g)(hN:X.N.Nodup)
   (hsw:swapsWith (.ListComp elt [⟨.Name x px,l,ifs,0⟩] scope pos) (some (.Name yy py)) spos.line X.env=pure true:=by rfl)
   (hiy:X.N[iy]? = some yy:=by rfl) (hyy:Loc X.env.scope yy:=by first | exact Or.inl rfl | exact Or.inr rfl) (hfy:X.fn yy=true\/X.env.scope.names.lookup yy=some .local:=by first | exact .inl rfl | exact .inr rfl | assumption)
   (hc:X.calm=true:=by rfl) (hs:∀v,foldedSetIterable l X.env v=pure v:=by intro _;rfl):FS X (.Assign [.Name yy py] (.ListComp elt [⟨.Name x px,l,ifs,0⟩] scope pos) spos) (qv iy (zdx fr f cn g)):=zzc false c src hif helt hN hsw hiy hyy hfy hc hs
theorem z2m(iy:Nat)(c:CompOk X scope x N' fr)(src:zwh X (.Name x px) l f)(hif:∀s₀ H₀ C ex,FT (yn X (x::N') scope s₀ H₀ C ex) ifs cn)(helt:∀s₀ H₀ C ex,FE (yn X (x::N') scope s₀ H₀ C ex) elt g)(hN:X.N.Nodup)
   (hsw:swapsWith (.ListComp elt [⟨.Name x px,l,ifs,0⟩] scope pos) (some (.Name yy py)) spos.line X.env=pure true:=by rfl)
   (hiy:X.N[iy]? = some yy:=by rfl) (hyy:Loc X.env.scope yy:=by first | exact Or.inl rfl | exact Or.inr rfl) (hfy:X.fn yy=true\/X.env.scope.names.lookup yy=some .local:=by first | exact .inl rfl | exact .inr rfl | assumption)
   (hc:X.calm=true:=by rfl) (hs:∀v,foldedSetIterable l X.env v=pure v:=by intro _;rfl):FS X (.Assign [.Name yy py] (.ListComp elt [⟨.Name x px,l,ifs,0⟩] scope pos) spos) (qv iy (zfe fr f cn g)):=zzc true c src hif helt hN hsw hiy hyy hfy hc hs
end
end F
namespace F
open PySem L2 PySem.Spec PySem.Calls PyProof.Rows PySem.W
open Builtin Builtin.ObjectAttr
def zc5(C:Addr)(dx:Option Addr)(t:Addr):Obj:={ cls:=.ref C,dict:=dx,data:=.fields #[.ref t,.none,.none,.none,.bool false,.none] }
def ExN(e C:Addr)(h:Heap):Prop:=∃t,h.get? e=some (zc5 C none t)
def ExD(e C dx:Addr)(h:Heap):Prop:=∃t,h.get? e=some (zc5 C (some dx) t)
def z0h(K:zFr)(C fI:Addr):Prop :=
 ∃(N:Addr) (nm q:Str) (bs bm:List Value) (hdct:Bool) (sn:List Str) (sub:List Value) (ab:Bool) (col:Option Bool) (dd:Option Addr) (k0 k1 k2 k3 k5:Option Value) (mN:zMg),
   bm.contains (.type "BaseException")=true/\mN "__init__"=some (.ref fI) /\
   ∀h:Heap,K.In h->h.get? C=some (excClassObj nm q C N bs bm hdct sn sub ab col dd k0 k1 k2 k3 k5 "ValueError.__new__")/\h.Ns N mN/\OwnTail h zds bm
section
variable {prog:Program}{w:World}{A:Around}{E:zVP}{h:Heap}{g:Array GenState}{d:Drawn}{t:Nat}{os:OsState}
variable {nm q:Str}{C N:Addr}{bs bm:List Value}{hdct:Bool}{sn:List Str}{sub:List Value}{ab:Bool}{col:Option Bool}{dd:Option Addr}{k0 k1 k2 k3 k5:Option Value}
theorem zjc{mN:zMg}{rest:List Value}{fI:Addr}{oI:Obj}{Q:PySem.Fin->Shared->Prop}(ow:OwnTail h zds bm)
   (eC:h.get? C=some (excClassObj nm q C N bs bm hdct sn sub ab col dd k0 k1 k2 k3 k5 "ValueError.__new__")) (eN:h.Ns N mN) (ei:mN "__init__"=some (.ref fI))
   (ef:h.get? fI=some oI) (cf:oI.cls=.type "function")
   (hq:∀h' e,Heap.MadeExcOf h h' e (.ref C) rest->wpAny (model prog w) A (call (.ref fI) (.ref e::rest)) (fun r s'=>r=.none/\Q (.done (.ret (.ref e))) s') E ⟨h',g,d,t,os⟩) (lr:rest.length<=sizeLine) :
   wpAny (model prog w) A (Builtin.«type.__call__» ⟨.ref C::rest,[]⟩) Q E ⟨h,g,d,t,os⟩:=by
 have FB:=z68
 repeat (first | with_reducible refine wpAny_loadPart_at eC ?_ | with_reducible refine wpAny_madeBy_exc eC ?_ | wp_step)
 refine codeAny_call_builtin_code (Code.quiet_builtin _ FB.quiet) (wpAny_check_new_subT FB ow eC (codeAny_exc_new_subT FB ow eC ?_ lr));show wpAny _ _ _ _ _ _;have k1:∀b o,h.get? b=some o->((h.push { cls:=.type "tuple",data:=.seq rest.toArray }).push { cls:=.ref C,data:=.fields #[.ref h.objs.size,.none,.none,.none,.bool false,.none] }).get? b=some o :=
   fun b o e=>z42 _ (z42 _ e)
 have eC1:=k1 _ _ eC;have ef1:=k1 _ _ ef;have eN1:((h.push { cls:=.type "tuple",data:=.seq rest.toArray }).push { cls:=.ref C,data:=.fields #[.ref h.objs.size,.none,.none,.none,.bool false,.none] }).Ns N mN:=eN.keeps k1;have gx:((h.push { cls:=.type "tuple",data:=.seq rest.toArray }).push { cls:=.ref C,data:=.fields #[.ref h.objs.size,.none,.none,.none,.bool false,.none] }).get? (h.objs.size+1)=some { cls:=.ref C,data:=.fields #[.ref h.objs.size,.none,.none,.none,.bool false,.none] }:=by heap_get
 have cC:(Value.ref C::bm).contains (.ref C)=true:=by simp
 have ow1:=ow.keeps k1;unfold isInstance
 repeat (first | with_reducible refine wpAny_loadPart_at gx ?_ | (with_reducible refine wpAny_isSubtype_exc eC1 ?_;rw[cC]) | wp_step)
 show wpAny _ _ (typeLookup (.ref C) _) _ _ _;refine wpAny_typeLookup_tail eC1 eN1 ow1 FB.mroIs FB.init.lookup ?_;rw[ei];refine wpAny_holding (z40 ?_);unfold bindSpecial;refine z40 (wpAny_typeOf (T:="function") ⟨_,ef1,cf⟩ ?_);rw[z5o (by decide)];have mk:Heap.MadeExcOf h ((h.push { cls:=.type "tuple",data:=.seq rest.toArray }).push { cls:=.ref C,data:=.fields #[.ref h.objs.size,.none,.none,.none,.bool false,.none] }) (h.objs.size+1) (.ref C) rest :=
   ⟨k1,z6f (z7c _),h.objs.size,gx,z6f (z45 _),z42 _ (Heap.get?_push_at rfl rfl)⟩
 refine z5e (z40 (thn (hq _ _ mk) fun r s' hr=>?_));obtain⟨rfl,hQ⟩:=hr
 wp_walk
 exact hQ
theorem zz2{mN:zMg}{rest:List Value}{fI:Addr}{oI:Obj}{Q:zVP}(ow:OwnTail h zds bm)
   (eC:h.get? C=some (excClassObj nm q C N bs bm hdct sn sub ab col dd k0 k1 k2 k3 k5 "ValueError.__new__")) (eN:h.Ns N mN) (ei:mN "__init__"=some (.ref fI))
   (ef:h.get? fI=some oI) (cf:oI.cls=.type "function")
   (hq:∀h' e,Heap.MadeExcOf h h' e (.ref C) rest->wpAny (model prog w) (A.under (.builtin "type.__call__" ⟨.ref C::rest,[]⟩)) (call (.ref fI) (.ref e::rest)) (fun r s'=>r=.none/\Q (.ref e) s') E ⟨h',g,d,t,os⟩) (lr:rest.length<=sizeLine) :
   wpAny (model prog w) A (call (.ref C) rest) Q E ⟨h,g,d,t,os⟩:=by
 have z1:=tc_lookup;have z2:=tc_bind (.ref C);have ty:(⟨h,g,d,t,os⟩:Shared).TypeIs (.ref C) "type":=⟨_,eC,rfl⟩
 refine z77 (codeAny_of_tree ?_);show wpAny _ _ (callAny (.ref C) _) _ _ _
 repeat (any_goals (first | assumption | with_reducible refine wpAny_loadPart_at eC ?_ | wp_step))
 refine⟨rfl,codeAny_call_builtin_at (Code.quiet_builtin _ (by decide +kernel)) entry_typeCall (wpAny_check_type_call_sub eC (zjc ow eC eN ei ef cf (fun h' e hm=>?_) lr))⟩;exact hq h' e hm
theorem zt7{M:Model}{env:Env}{s:Shared}{x:Sem Value}{Q:Flow->Shared->Prop}{newId:String}(bx:bm.contains (.type "BaseException")=true)(nh:A.handled=none)
   (hq:wpAny M A x (fun v s1=>∃e t dx,v=.ref e/\s1.heap.get? C=some (excClassObj nm q C N bs bm hdct sn sub ab col dd k0 k1 k2 k3 k5 newId)/\s1.heap.get? e=some (zc5 C dx t)/\E (.ref e) s1) E s) :
   wpAny M A (raiseStmt env (some x) none) Q E s:=by
 have cB:(Value.ref C::bm).contains (.type "BaseException")=true:=by rw[List.contains_cons,bx,Bool.or_true]
 unfold raiseStmt;refine z40 (thn hq fun v s1 z=>?_);obtain⟨e,t,dx,rfl,eC,ee,hE⟩:=z;obtain⟨hp,g,d,tk,os⟩:=s1;unfold zc5 at ee
 repeat (first | with_reducible refine wpAny_loadPart_at ee ?_ | with_reducible refine wpAny_loadPart_at eC ?_ | (with_reducible refine wpAny_isSubtype_exc eC ?_;rw[cB]) | wp_step)
 exact wpAny_raiseNew_none nh hE
end
section
variable {prog:Program}{w:World}{A:Around}{E:zVP}{h:Heap}{g:Array GenState}{d:Drawn}{t:Nat}{os:OsState}
variable {nm q:Str}{C N e t0:Addr}{bs bm:List Value}{hdct:Bool}{sn:List Str}{sub:List Value}{ab:Bool}{col:Option Bool}{dd:Option Addr}{k0 k1 k2 k3 k5:Option Value}
theorem zy3{u:Value}{Q:zVP}(ow:OwnTail h zds bm)(eC:h.get? C=some (excClassObj nm q C N bs bm hdct sn sub ab col dd k0 k1 k2 k3 k5 "ValueError.__new__"))
   (ee:h.get? e=some (zc5 C none t0)) (hq:∀h' t',h'.get? e=some (zc5 C none t')->(∀b o,b≠e->h.get? b=some o->h'.get? b=some o)->Q .none ⟨h',g,d,t,os⟩) :
   wpAny (model prog w) A (call (.builtin "ValueError.__init__") [.ref e,u]) Q E ⟨h,g,d,t,os⟩:=by
 have FB:=z68;unfold zc5 at ee;refine z77 (z76 FB.init.plain FB.initEntry (wpAny_check_init_subT FB ow eC ee rfl ?_))
 wp_walk
 refine hq _ h.objs.size ?_ fun b o nb eb=>?_
 · rw[z52 _ (z42 _ ee) rfl];rfl
 · rw[z5q _ _ (z5x nb)];exact z42 _ eb
end
section
variable {prog:Program}{w:World}{A:Around}{E:zVP}{s:Shared}{K:zFr}{x C t0:Addr}{name:Str}{v:Value}
structure XSet (K:zFr) (C:Addr) (name:Str):Prop where
 sa:findIn K (.ref C) "__setattr__"=some (some (.builtin "object.__setattr__"))
 na:findIn K (.ref C) name=some none
 hd:hasDictIn K C=true
 mr:∃cd bm,clsIn K C=some cd/\cd.mro=bm++zds/\∀y∈bm,∃c,y=.ref c
theorem zer(self:Value)(what:Str)(l:List Value):∀(bm:List Value),(∀y∈bm,∃c,y=Value.ref c)->refuseLoop self what (bm++l)=refuseLoop self what l
 | [],_=>rfl
 | y::bm,hy=>by obtain⟨c,rfl⟩:=hy y (z5w ..);rw[List.cons_append,refuseLoop_ref,zer self what l bm fun z hz=>hy z (z5d _ hz)]
theorem z1v{tk:Tok}{R:Result->Shared->Prop}(X:K.In s.heap)(Z:XSet K C name)(ee:s.heap.get? x=some (zc5 C none t0))
   (hq:∀h' tk,h'.get? x=some (zc5 C (some s.heap.objs.size) t0)->h'.Ns1 s.heap.objs.size (fun y=>if y=name then some v else none)->(∀b o,b≠x->s.heap.get? b=some o->h'.get? b=some o)->R (.ok (.ret .none)) { s with heap:=h',toks:=tk }) :
   codeAny (model prog w) A (.call (.builtin "object.__setattr__") ⟨[.ref x,.str name tk,v],[]⟩) R s:=by
 have I:InstAt s.heap x (zc5 C none t0) C none:=⟨ee,rfl,rfl,trivial⟩
 obtain⟨cd,bm,hc,hm,hb⟩:=Z.mr;have SF:=PySem.F.store_object;have hmo:cd.mro.contains (.type "object")=true:=by rw[hm];simp[zds]
 have ne:cd.mro.isEmpty=false:=by rw[hm];cases bm<;>rfl
 have sub:Looks (model prog w) s.heap (isInstance (.ref x) (.type "object")) true:=I.type.andThen (looks_mroIn X (by unfold mroIn;rw[hc,Option.bind_some,z5l (by rw[ne];decide),hmo]));refine z76 SF.slot.plain SF.entry (@check_slot (model prog w) _ _ s "object.__setattr__" "object" "__setattr__" (.ref x) [.str name tk,v] [] _ SF.kind SF.split sub (SF.args (.ref x) (.str name tk) v) ?_);have lm:Looks (model prog w) s.heap (mroOf (.ref C)) cd.mro:=(looks_clsIn X hc).andThen .now;rw[osa_eq,refuse_eq];refine z40 (z40 (I.type.here (z40 (lm.here ?_))));rw[hm,zer _ _ _ bm hb,show refuseLoop (.ref x) "__setattr__" zds=pure ()from PySem.F.store_ValueError.passes (.ref x)];refine z5e (z40 (I.type.here (z40 ((looks_findIn X Z.na).here (z40 (z5e ?_))))));have hd:cd.hasDict=true:=by obtain⟨cd',a,b⟩:=any_some Z.hd;rw[hc]at a;cases a;exact b
 dsimp only;refine z40 (z5e (z40 (z40 (z8j ee (z40 ((looks_clsIn X hc).here ?_))))));rw[hd];have e1:(s.heap.push { cls:=.type "dict",data:=.dict #[] }).get? x=some (zc5 C none t0):=z42 _ ee;have nx:x≠s.heap.objs.size:=z5n (z5c ee);refine z40 (wpAny_alloc' (z40 (wpAny_update' e1 ?_)));refine z5e ?_;have gd:((s.heap.push { cls:=.type "dict",data:=.dict #[] }).update x fun o=>{ cls:=o.cls,dict:=some s.heap.objs.size,data:=o.data,slots:=o.slots }).get? s.heap.objs.size=some { cls:=.type "dict",data:=.dict #[] } :=
   (Heap.get?_update_ne _ _ _ _ nx.symm).trans (Heap.get?_push_at rfl rfl)
 have nd:((s.heap.push { cls:=.type "dict",data:=.dict #[] }).update x fun o=>{ cls:=o.cls,dict:=some s.heap.objs.size,data:=o.data,slots:=o.slots }).Ns s.heap.objs.size (fun _=>none) :=
   ⟨_,#[],_,gd,rfl,fun e he=>absurd he (by simp),fun _=>rfl⟩
 show wpAny _ _ (storeInDict s.heap.objs.size (.str name _) name v) _ _ _;unfold storeInDict newKeyGuard;refine z40 (z5e (z40 (wpAny_nsSet1 (Heap.Ns1.of_empty nd) fun h' hn' hs=>?_)));obtain⟨oD,esD,epD,hoD,hdD,hcD⟩:=hn'.count (Within.cons name v Within.nil);refine z40 (wpAny_lookBehind hoD (by rw[hdD];exact pastItsLine_dict (z5p hcD (by rw[List.length_cons,List.length_nil,z55];omega))) ?_)
 wp_walk
 refine hq h' _ ((hs.2 x nx).trans (z52 _ e1 rfl)) hn' fun b o nb eb=>?_;exact(hs.2 b (z5n (z5c eb))).trans ((Heap.get?_update_ne _ _ _ _ nb).trans (z42 _ eb))
theorem z1d{Q:Unit->Shared->Prop}(X:K.In s.heap)(Z:XSet K C name)(ee:s.heap.get? x=some (zc5 C none t0))
   (hq:∀h' tk,h'.get? x=some (zc5 C (some s.heap.objs.size) t0)->h'.Ns1 s.heap.objs.size (fun y=>if y=name then some v else none)->(∀b o,b≠x->s.heap.get? b=some o->h'.get? b=some o)->Q () { s with heap:=h',toks:=tk }) :
   wpAny (model prog w) A (setAttr (.ref x) name v) Q E s :=
 set_plain X (⟨ee,rfl,rfl,trivial⟩:InstAt s.heap x (zc5 C none t0) C none) Z.sa (z1v (s:={ s with toks:=s.toks+1 }) X Z ee fun h' tk a b c=>hq h' tk a b c)
end
section
variable {prog:Program}{w:World}{A:Around}{E:zVP}{s:Shared}{K:zFr}{x D:Addr}{ox:Obj}{od:Option Obj}{name:Str}{v:Value}
theorem zvg{expr:Bool}{Q:zVP}(X:K.In s.heap)(I:InstAt s.heap x ox D od)(Z:ExcIs K D)(hf:findObj K D od name=some (.value v))(hh:handedIn v=true)(h:Q v { s with toks:=s.toks+1 }) :
   wpAny (model prog w) A (getAttr (.ref x) name expr) Q E s:=by
 obtain⟨hh',g,d,t,os⟩:=s;have L0:=I.type (M:=model prog w);have L1:=looks_findIn (M:=model prog w) X Z.ga;have L2:=looks_findIn (M:=model prog w) X Z.gn;have L3:=looks_find (M:=model prog w) X I hf;have oc:OfCls x D hh':=⟨ox,I.at_,I.cls⟩
 have f3:=z8b.ga.bind (.ref x);have hx2:(Value.builtin "BaseException.__getattribute__"==Value.builtin "object.__getattribute__")=false:=(by decide +kernel)
 unfold getAttr getAttrBy;refine z40 (wpAny_mkText (wpAny_holding (z40 (L0.at (z40 (L1.at ?_))))));show wpAny _ _ (if(true&&Value.builtin "BaseException.__getattribute__"==Value.builtin "object.__getattribute__")=true then _ else _) _ _ _;rw[hx2];simp only[Bool.and_false,z59,z69];unfold getAttrByItsOwn hookBefore;show wpAny _ _ ((do let before <-typeLookup (.ref D) "__getattr__";_):Sem Value) _ _ _;refine z40 (L2.at ?_);refine z40 (wpAny_attempt (wpAny_holding ?_));unfold callGetattribute boundAndCalled;rw[show(expr&&onTheHeap (Value.builtin "BaseException.__getattribute__"))=false from Bool.and_false _];simp only[z83,z59,z69,f3,pure_bind];refine z77 (z76 z8b.ga.plain PySem.F.entry_bexc_ga (zoy X oc Z ?_));unfold Builtin.«object.__getattribute__»;refine z40 (z5e (z40 (z5e (z40 (L0.at (z40 (L3.at (z5e ?_))))))));show wpAny _ _ (handedOut v) _ _ _;rw[handedOut_of hh];exact z5e h
end
end F
namespace F
open PySem L2 PySem.Spec PySem.Calls PyProof.Rows PySem.W
def zlr:List D->Option (List PyData)
 | []=>some []
 | .int i::r=>(zlr r).map (.int i::·)
 | .str x::r=>(zlr r).map (.str x::·)
 |_=>none
def zcv(txt:Str)(ds:List PyData):Bool:=(PyData.tuple ds).showable&&decide ((Str.empty++txt).length<=sizeLine)&&decide (((Str.empty++txt)++(PyData.tuple ds).shown).length<=sizeLine)
inductive ItsV:List V->List PyData->Prop
 |nil:ItsV [] []
 |int {i vs ds} (t:ItsV vs ds):ItsV (.int i::vs) (.int i::ds)
 |str {x vs ds} (t:ItsV vs ds):ItsV (.str x::vs) (.str x::ds)
theorem zoj{K mg ρ H}:∀{ds:List D}{ps:List PyData}{vs:List V},zlr ds=some ps->RepL K mg ρ H ds vs->ItsV vs ps
 | [],ps,vs,e,r=>by unfold RepL at r;subst r;cases e;exact .nil
 | d::ds,ps,vs,e,r=>by
   unfold RepL at r;obtain⟨v,r',rfl,h1,h2⟩:=r;cases d with
   | int i=>
     obtain⟨l,e1,rfl⟩:=zcc e;rw[show v=.int i from h1];exact .int (zoj e1 h2)
   | str x=>
     obtain⟨l,e1,rfl⟩:=zcc e;rw[show v=.str x from h1];exact .str (zoj e1 h2)
   |_=>cases e
theorem zqg{h:Heap}{vs:List V}{ps:List PyData}(i:ItsV vs ps):∀{us:List Value},Vals vs us->ReadsAll h us ps []:=by
 induction i with
 |nil=>intro us r;cases r;exact .nil
 | @int i vs ds t ih=>
   intro us r;cases r with
   | cons a b=>
     obtain⟨tk,rfl⟩:=(show ∃t,_=Value.int i t from a)
     exact .cons (as:=[]) (.int i tk) (ih b)
 | @str x vs ds t ih=>
   intro us r;cases r with
   | cons a b=>
     obtain⟨tk,rfl⟩:=(show ∃t,_=Value.str x t from a)
     exact .cons (as:=[]) (.str x tk) (ih b)
theorem zok{vs:List V}{ps:List PyData}(i:ItsV vs ps):PyData.depthAll ps<=1/\PyData.hasDictAll ps=false:=by
 induction i with
 |nil=>exact⟨by decide,rfl⟩
 |int t ih=>exact⟨by simp only[PyData.depthAll,PyData.depth];have:=ih.1;omega,by simp only[PyData.hasDictAll,PyData.hasDict,ih.2,Bool.or_self]⟩
 |str t ih=>exact⟨by simp only[PyData.depthAll,PyData.depth];have:=ih.1;omega,by simp only[PyData.hasDictAll,PyData.hasDict,ih.2,Bool.or_self]⟩
theorem zop{P:Program}{w:World}{H:Hp}{h:Heap}{a:Addr}{o:HO}(x:HOk P w H h)(hn:H a=none)(new:ObjOk P w (upd H a o) h a o):HOk P w (upd H a o) h:=fun b u e=>by
 by_cases hb:b=a
 · subst hb;rw[jh]at e;cases e;exact new
 · rw[zz hb]at e;exact(x b u e).stay (fun c v _ q=>q) (fun c q=>by rw[zz (qh q hn)];exact q) fun c xs q=>by rw[zz (qh q hn)];exact q
theorem zr5{fs ex:List Addr}{H H1:Hp}{h h1:Heap}{a:Addr}{o:HO}(u:Un fs ex H H1 h h1)(hn:h.get? a=none)(h1n:H1 a=none):Un fs ex H (upd H1 a o) h h1 where
 keep:=u.keep
 slot:=u.slot
 free:=fun b ob q n hx=>by rw[zz (fun z=>by subst z;rw[hn]at q;cases q)];exact u.free b ob q n hx
 there:=u.there
 tups:=fun b xs e=>by rw[zz (qh (u.tups b xs e) h1n)];exact u.tups b xs e
 frzs:=fun b ob v e=>by rw[zz (qh (u.frzs b ob v e) h1n)];exact u.frzs b ob v e
 tbls:=fun b ps e=>by obtain⟨m,q⟩:=u.tbls b ps e;exact⟨m,by rw[zz (qh q h1n)];exact q⟩
structure XBase (K:zFr) (mg:zMg) (b:Str):Prop where
 ex:∃S,mg b=some (.ref S)/\readsIn K S (.type "type")=true/\findCls K (.ref S) (.type "type") "__init__"=some (.val (.builtin "ValueError.__init__"))/\specialIn K (.ref S) "__getattribute__"=some (some (.builtin "type.__getattribute__"))
section
variable {X:Cx}{C fI:Addr}{b txt n:Str}{k:Nat}{p1 p2 p3 p4 p5 p6 p7 p8 p9 q1 q2 q3 q4:Pos}{jj:Nat}
def zte(K:zFr)(C:Addr)(txt n:Str):TS:=fun D σ H=>∃e p ws ds,σ[0]? = some (some (.ref e))/\σ[1]? = some (some (.ref p))/\H e=some (.ext (ExN e C))/\SqT K H p ws/\ItsV ws ds/\zcv txt ds=true /\
 ∀dx,H dx=none->dx≠e->D.nx σ (upd (upd H e (.ext (ExD e C dx))) dx (.xd [(n,.ref p)]))
theorem zwn{pins:zAO}{s:Shared}{σ:L2.St}{H:Hp}{p:Addr}{ws:List V}{ds:List PyData}{x:Str}{Q:zVP}(hr:Room k X.A)(I:Inv X pins σ H s)(h1:σ[1]? = some (some (.ref p)))(hq:SqT X.K H p ws)(hi:ItsV ws ds)(ok:zcv txt ds=true)
   (hN:X.N[1]? = some x) (hv:Vis X.env.scope x) (hd:(x==("__debug__":Str))=false) (hcd:(x==("__classdict__":Str))=false)
   (h:∀y t s',Inv X pins σ H s'->Q (.str y t) s') :
   wpAny (model X.prog X.w) X.A (eval (.JoinedStr [.Constant (.str txt) jj p4,.FormattedValue (.Name x p5) 114 none p6] p7) X.env) Q X.xe s:=by
 unfold zcv at ok;simp only[z5k,z5b]at ok;obtain⟨⟨o1,o2⟩,o3⟩:=ok;refine JoinedStr_many (joinParts_cons (Calls.Constant_str ⟨o2,joinParts_consE (joinParts_cons (wpAny_FormattedValue_repr ?_))⟩));refine thn (zh8 hN hv hd hcd pins _ σ H (fun v H1=>v=.ref p/\H1=H) (I.tok _) ⟨_,h1,rfl,rfl⟩) fun u s1 ⟨v,H1,I1,r,ev,eH⟩=>?_;subst ev;subst eH;cases(show u=Value.ref p from r);obtain⟨its,rv,⟨o,e1,e2,nn,e3⟩,_⟩:=I1.tuple hq;have rd:Reads s1.heap (.ref p) (.tuple ds) []:=.tuple e1 e2 e3 (by rw[List.toList_toArray];exact zqg hi rv);have dp:=zok hi;have hu:=hr.un;refine pyReprObj_of_reads rd o1 (PyData.noDict_hsm (by simp only[PyData.hasDict];exact dp.2)) hr.gd (by simp only[PyData.depth];omega) (fun _ _ e=>e) (fun h' u tk hk=>?_) (z5p (by rw[z8o];exact z8c _ _) o3);have I2:∀tk',Inv X pins σ H1 { s1 with heap:=h',toks:=tk' }:=fun tk'=>I1.kept (t':=tk') hk;refine wpAny_formatField_str ?_ ?_ (z5p (by rw[z8o];exact z8c _ _) o3)
 · exact⟨o3,joinParts_nilE (joinParts_nil (h _ _ _ ((I2 tk).tok _)) o3)⟩
 · exact⟨o3,joinParts_nilE (joinParts_nil (h _ _ _ ((I2 _).tok _)) o3)⟩
theorem zqm{x y:Str}{pl:Sem Bool}(hx:z0h X.K C fI)(hb:XBase X.K X.mg b)(hs:XSet X.K C n)(hr:Room k X.A)
   (h0:X.N[0]? = some x:=by rfl) (h1:X.N[1]? = some y:=by rfl) (v0:Vis X.env.scope x:=by exact Or.inl rfl) (v1:Vis X.env.scope y:=by exact Or.inl rfl) (hg:Gl X b:=by rfl)
   (d0:(x==("__debug__":Str))=false:=by decide) (c0:(x==("__classdict__":Str))=false:=by decide) (d1:(y==("__debug__":Str))=false:=by decide) (c1:(y==("__classdict__":Str))=false:=by decide) (db:(b==("__debug__":Str))=false:=by decide)
   (w1:swapsWith (.Call (.Attribute (.Name b p1) "__init__" p2) [.Name x p3,.JoinedStr [.Constant (.str txt) jj p4,.FormattedValue (.Name y p5) 114 none p6] p7] [] p8) none p9.line X.env=pure false:=by rfl)
   (w2:swapsWith (.Name y q3) (some (.Attribute (.Name x q1) n q2)) q4.line X.env=pure false:=by rfl)
   (hst:starEach [.Name x p3,.JoinedStr [.Constant (.str txt) jj p4,.FormattedValue (.Name y p5) 114 none p6] p7] X.env=(false,eval (.Name x p3) X.env)::starEach [.JoinedStr [.Constant (.str txt) jj p4,.FormattedValue (.Name y p5) 114 none p6] p7] X.env:=by exact qm rfl)
   (hst2:starEach [.JoinedStr [.Constant (.str txt) jj p4,.FormattedValue (.Name y p5) 114 none p6] p7] X.env=(false,eval (.JoinedStr [.Constant (.str txt) jj p4,.FormattedValue (.Name y p5) 114 none p6] p7) X.env)::starEach [] X.env:=by exact qm rfl)
   (hpl:(backTo p8 (starEach [.JoinedStr [.Constant (.str txt) jj p4,.FormattedValue (.Name y p5) 114 none p6] p7] X.env)).any (·.1)=false:=by exact jy rfl)
   (ht:eval (.Call (.Attribute (.Name b p1) "__init__" p2) [.Name x p3,.JoinedStr [.Constant (.str txt) jj p4,.FormattedValue (.Name y p5) 114 none p6] p7] [] p8) X.env=(do
     let ov <-eval (.Name b p1) X.env
     standAt p2.atName
     let(f,first) <-holding [ov] (getMethod ov "__init__" pl)
     callWith p8 f first (backTo p8 (starEach [.Name x p3,.JoinedStr [.Constant (.str txt) jj p4,.FormattedValue (.Name y p5) 114 none p6] p7] X.env)) (backToKw p8 (keywordEach [] X.env))):=by rfl) :
   PSs X [.Expr (.Call (.Attribute (.Name b p1) "__init__" p2) [.Name x p3,.JoinedStr [.Constant (.str txt) jj p4,.FormattedValue (.Name y p5) 114 none p6] p7] [] p8) p9,.Assign [.Attribute (.Name x q1) n q2] (.Name y q3) q4] (zte X.K C txt n):=by
 obtain⟨S,hm,s1,s2,s3⟩:=hb.ex;obtain⟨N,nm,q,bs,bm,hdct,sn,sub,ab,col,dd,k0,k1,k2,k3,k5,mN,hbm,hmi,hk⟩:=hx;intro pins s σ H D I t;obtain⟨e,p,ws,ds,g0,g1,he,hp,hi,ok,kk⟩:=t;have second:∀s2,Inv X pins σ H s2->wpAny (model X.prog X.w) X.A (execs [.Assign [.Attribute (.Name x q1) n q2] (.Name y q3) q4] X.env) (SP X pins D) X.xe s2:=fun s2 I2=>by
   refine z6r (z7u (thn (zh8 h1 v1 d1 c1 pins s2 σ H (fun v H1=>v=.ref p/\H1=H) I2 ⟨_,g1,rfl,rfl⟩) fun u s3 ⟨v,H1,I3,r,ev,eH⟩=>?_) w2);subst ev;subst eH;cases(show u=Value.ref p from r);refine thn (zh8 h0 v0 d0 c0 pins s3 σ H1 (fun v H2=>v=.ref e/\H2=H1) I3 ⟨_,g0,rfl,rfl⟩) fun u s4 ⟨v,H2,I4,r,ev,eH⟩=>?_;subst ev;subst eH;cases(show u=Value.ref e from r);obtain⟨t0,ee⟩:=(show ExN e C s4.heap from(I4.hok e _ he).1)
   have ne:s4.heap.objs.size≠e:=z8g (z5c ee);have hdx:H2 s4.heap.objs.size=none:=I4.hok.fresh (z45 _);refine z1d I4.kIn hs ee fun h' tk a1 a2 a3=>?_;have mu:Mut (H2 e):=by rw[he];trivial
   have new:ObjOk X.prog X.w (upd H2 e (.ext (ExD e C s4.heap.objs.size))) h' e (.ext (ExD e C s4.heap.objs.size)):=⟨⟨t0,a1⟩,⟨_,a1⟩,fun h1 h2 ⟨t,z⟩ kz=>⟨t,kz _ z⟩⟩
   have ok1:=I4.hok.write mu (.inl rfl) (fun b u nb eb=>a3 b u nb eb) ⟨_,a1⟩ new;have un1:=Un.write (fs:=X.fs) (ex:=[]) (H:=H2) (h:=s4.heap) (o:=.ext (ExD e C s4.heap.objs.size)) mu (.inl rfl) (fun b u nb eb=>a3 b u nb eb) ⟨_,a1⟩;have nd:upd H2 e (.ext (ExD e C s4.heap.objs.size)) s4.heap.objs.size=none:=by rw[zz ne];exact hdx
   have ok2:HOk X.prog X.w (upd (upd H2 e (.ext (ExD e C s4.heap.objs.size))) s4.heap.objs.size (.xd [(n,.ref p)])) h':=zop ok1 nd ⟨_,a2,fun f=>by
     by_cases hf:f=n
     · subst hf;simp only[z64];simp[RelO,L2.RelV]
     · simp only[z5l hf];have:(f==n)=false:=by simpa using hf
       simp[List.lookup,this,RelO]⟩
   exact z7h ⟨σ,_,I4.un (t':=tk) (zr5 un1 (z6f (z45 _)) nd) ok2,kk _ hdx ne⟩
 refine z6r (wpAny_Expr_any (methodCall_KW (pl:=pl) (zak I hg hm ?_ db) ht) I.quiet w1);refine method_cls I.kIn s3 (cls_value I.kIn s1 s2 (by decide +kernel) ?_);have I0:=I.tok (s.toks+1);refine callWith_builtin1 ?_ hst hpl;rw[hst];show wpAny _ _ (spliced ((false,eval (.Name x p3) X.env)::backTo p8 (starEach [.JoinedStr [.Constant (.str txt) jj p4,.FormattedValue (.Name y p5) 114 none p6] p7] X.env))) _ _ _;refine z7k (thn (zh8 h0 v0 d0 c0 pins _ σ H (fun v H1=>v=.ref e/\H1=H) I0 ⟨_,g0,rfl,rfl⟩) fun u sA ⟨v,H1,IA,r,ev,eH⟩=>?_);subst ev;subst eH;cases(show u=Value.ref e from r);rw[hst2];show wpAny _ _ (spliced ((false,eval (.JoinedStr [.Constant (.str txt) jj p4,.FormattedValue (.Name y p5) 114 none p6] p7) X.env)::[])) _ _ _;refine z7k (zwn hr IA g1 hp hi ok h1 v1 d1 c1 fun yy tt sB IB=>Calls.spliced_nil ?_);obtain⟨t0,ee⟩:=(show ExN e C sB.heap from(IB.hok e _ he).1)
 obtain⟨z1,z2,z3⟩:=hk sB.heap IB.kIn;obtain⟨hB,gB,dB,tB,oB⟩:=sB;refine zy3 z3 z1 ee fun h' t' a1 a2=>?_;have mu:Mut (H1 e):=by rw[he];trivial
 have new:ObjOk X.prog X.w (upd H1 e (.ext (ExN e C))) h' e (.ext (ExN e C)):=⟨⟨t',a1⟩,⟨_,a1⟩,fun h1 h2 ⟨t,z⟩ kz=>⟨t,kz _ z⟩⟩
 have IC:=IB.write (t':=tB) mu (.inl rfl) (fun b u nb eb=>a2 b u nb eb) ⟨_,a1⟩ new;have eH:upd H1 e (.ext (ExN e C))=H1:=by
   funext z;by_cases hz:z=e
   · subst hz;rw[jh,he]
   · rw[zz hz]
 rw[eH]at IC;exact second _ IC
end
def spX(K:zFr)(C:Addr)(txt n:Str):Sp:=fun vs H Q _=>∃e p ws ds,vs=[.ref e,.ref p]/\H e=some (.ext (ExN e C))/\SqT K H p ws/\ItsV ws ds/\zcv txt ds=true /\
 ∀dx,H dx=none->dx≠e->Q .non (upd (upd H e (.ext (ExD e C dx))) dx (.xd [(n,.ref p)]))
structure XInit (P:Program) (w:World) (K:zFr) (mg:zMg) (base:Heap) (k:Nat) (c txt n:Str):Prop where
 ex:∃(C fI:Addr) (fd:FuncData) (ps:List Str),mg c=some (.ref C)/\z0h K C fI/\isFn K (.ref fI)=true/\FnOk P w K mg base CX0 k fI fd ps (spX K C txt n)/\Binds K fd ps []
structure HasXI (K:zFr) (mg:zMg) (c b n qual:Str) (st:Stmt):Prop where
 ex:∃(C fI:Addr) (fd:FuncData),FunD K "__init__" qual st fI fd .none/\mg c=some (.ref C)/\z0h K C fI/\isFn K (.ref fI)=true/\XSet K C n
 base:XBase K mg b
section
variable {P:Program}{w:World}{K:zFr}{mg:zMg}{base:Heap}{k:Nat}{c b n txt qual:Str}{N ps:List Str}{st:Stmt}
theorem HasXI.xinit(h:HasXI K mg c b n qual st)(S:FnScope N ps (zg st))(hb:zv5 "__init__" qual st ps)(hl:ps.length=2)
   (hbody:∀(C fI:Addr) (cdv:Value) (A:Around) (outer:List Env) (s:Shared) (H:Hp) (E:XK),z0h K C fI->XSet K C n->Room k (A.deeper (envOfC qual (zg st) s.heap.objs.size fI cdv)) ->
     PSs (zfr CX0 P w K mg base N qual (zg st) fI cdv A outer s H E) (xo st) (zte K C txt n)):XInit P w K mg base (k+1) c txt n:=by
 obtain⟨C,fI,fd,F,hm,hx,hf,hs⟩:=h.ex;refine⟨C,fI,fd,ps,hm,hx,hf,?_,F.binds0 hb⟩;obtain⟨oc,od,kV,doc,pm,an,cdv,ct,osl,rfl,lk,hcd⟩:=F.ex;refine zvc lk hcd S (fun vs H Q E h=>?_) fun A outer s H vs Q E hr hsp=>⟨zte K C txt n,hbody C fI cdv A outer s H E hx hs hr,?_⟩
 · obtain⟨e,p,ws,ds,rfl,_⟩:=h;exact hl.symm
 · obtain⟨e,p,ws,ds,rfl,h1,h2,h3,h4,h5⟩:=hsp;exact⟨e,p,ws,ds,rfl,rfl,h1,h2,h3,h4,h5⟩
end
def zgy(c txt n:Str)(a:As):R:=fun ev S=>(a ev S).bind fun q=>match q.1 with
 | [.tup ds]=>(zlr ds).bind fun ps=>if zcv txt ps=true then some (c,q.2++[.xd n (.tup ds)])else none
 |_=>none
section
variable {X:Cx}{e:Expr}{a:As}{c txt n:Str}{k:Nat}{np cpos pos:Pos}
theorem znh(xi:XInit X.prog X.w X.K X.mg X.base k c txt n)(hr:Room (k+1) X.A)(ha:FA X [e] a)(hg:Gl X c:=by rfl)(he:starEach [e] X.env=(false,eval e X.env)::starEach [] X.env:=by exact qm rfl)(hcm:X.calm=true:=by rfl)(hdb:(c==("__debug__":Str))=false:=by decide)
   (hpl:(backTo cpos (starEach [e] X.env)).any (·.1)=false:=by exact jy rfl) :
   RS X (.Raise (some (.Call (.Name c np) [e] [] cpos)) none pos) (zgy c txt n a):=by
 obtain⟨C,fI,fd,ps,hm,hx,hfn,F,hb⟩:=xi.ex;obtain⟨N,nm,q,bs,bm,hdct,sn,sub,ab,col,dd,k0,k1,k2,k3,k5,mN,hbm,hmi,hk⟩:=hx;intro pins s σ H E Q hxe I t;obtain⟨ρ,ev,S,nm',S',hE,hS,hf,CC,hC,kk⟩:=t;obtain⟨⟨ws,S1⟩,q1,hf1⟩:=z5 hf;dsimp only at hf1;split at hf1
 · rename_i ds;obtain⟨ps',q2,hf2⟩:=z5 hf1;split at hf2
   · rename_i hok;cases hf2;rw[hm]at hC;cases hC;have hA:=ha cpos pins s σ H (fun vs H1=>∃ρ1,Ext ρ H ρ1 H1/\StOk X.K X.mg ρ1 H1 S1/\RepL X.K X.mg ρ1 H1 [.tup ds] vs) I ⟨ρ,ev,S,_,S1,hE,hS,q1,fun vs ρ1 H1 E1 hS1 r1=>⟨ρ1,E1,hS1,r1⟩⟩;rw[arm_exec_Raise];refine z40 (z7i (zt7 (nm:=nm) (q:=q) (N:=N) (C:=C) (bs:=bs) (bm:=bm) (hdct:=hdct) (sn:=sn) (sub:=sub) (ab:=ab) (col:=col) (dd:=dd) (k0:=k0) (k1:=k1) (k2:=k2) (k3:=k3) (k5:=k5) (newId:="ValueError.__new__") hbm (I.ok.hd hcm)
       (z40 (thn (wpAny_Call_ofName (zak I hg hm ?_ hdb)) fun v s₃ h₃=>z40 (z7i (z5e h₃))))))
     unfold callWith;rw[he]at hA;simp only[hpl];rw[he];refine z40 (wpAny_holding (z74 (thn hA fun us s2 ⟨vs,H2,I2,r2,ρ1,E1,hS1,rl⟩=>z40 (z7i ?_))));unfold RepL at rl;obtain⟨v,r',rfl,rv,rl⟩:=rl;unfold RepL at rl;subst rl;obtain⟨p,ws,rfl,tt,rds⟩:=rv.refT;obtain⟨u,rfl,ru⟩:=r2.one;cases(show u=Value.ref p from ru);obtain⟨z1,z2,z3⟩:=hk s2.heap I2.kIn;obtain⟨h2,g2,d2,t2,o2⟩:=s2;have hty:typeIn X.K (.ref fI)=some (.type "function"):=z6n.mp hfn;obtain⟨oI,eI,cI⟩:∃oI,h2.get? fI=some oI/\oI.cls=.type "function":=by obtain⟨o,hl,ho⟩:=Option.map_eq_some_iff.mp (show(X.K.lookup fI).map (fun x=>x.cls)=some (.type "function")from hty);exact⟨o,I2.kIn _ _ hl,ho⟩
     refine z40 (wpAny_keeperOf_exc z1 ?_);refine z40 (zz2 z3 z1 z2 hmi eI cI (fun h' x mk=>?_) (by rw[z55];exact Nat.succ_le_of_lt (by decide)));have hx0:H2 x=none:=zq0 (fun b u q=>zb5 (I2.hok b u q)) mk.new;obtain⟨tx,ex,_⟩:=mk.there;have new:ObjOk X.prog X.w (upd H2 x (.ext (ExN x C))) h' x (.ext (ExN x C)):=⟨⟨tx,ex⟩,⟨_,ex⟩,fun h1 h2 ⟨t,z⟩ kz=>⟨t,kz _ z⟩⟩
     have ok3:HOk X.prog X.w (upd H2 x (.ext (ExN x C))) h':=zop (I2.hok.kept mk.keeps) hx0 new;have I3:Inv X pins σ (upd H2 x (.ext (ExN x C))) ⟨h',g2,d2,t2,o2⟩:=I2.un (t':=t2) (zr5 (Un.kept mk.keeps) mk.new hx0) ok3;have sq:SqT X.K (upd H2 x (.ext (ExN x C))) p ws:=by
       have t3:TupAt X.K ρ1 (upd H2 x (.ext (ExN x C))) p ws:=by
         rcases tt with⟨n0,tt | ⟨o,tt⟩⟩ | tt
         · exact .inl ⟨n0,.inl (by rw[zz (qh tt hx0)];exact tt)⟩
         · exact .inl ⟨n0,.inr ⟨o,by rw[zz (qh tt hx0)];exact tt⟩⟩
         · exact .inr tt
       exact t3.sq
     have vv:Vals [V.ref x,V.ref p] [Value.ref x,Value.ref p]:=.cons rfl (.cons rfl .nil);have hsp:spX X.K C txt n [V.ref x,V.ref p] (upd H2 x (.ext (ExN x C))) (fun v H'=>v=.non/\∃dx,H2 dx=none/\dx≠x/\H'=upd (upd (upd H2 x (.ext (ExN x C))) x (.ext (ExD x C dx))) dx (.xd [(n,.ref p)])) (fun _ _ _=>False) :=
       ⟨x,p,ws,ps',rfl,jh,sq,zoj q2 rds,hok,fun dx n1 n2=>⟨rfl,dx,by rw[zz n2]at n1;exact n1,n2,rfl⟩⟩
     have hlen:=F.len _ _ _ _ hsp;refine z77 (z7x (F.run _ X.stack ⟨h',g2,d2,t2,o2⟩ _ ⟨[Value.ref x,Value.ref p],[]⟩ [Value.ref x,Value.ref p] _ _ _ (hr.make C [Value.ref p] []) (I3.env0.make C [Value.ref p] []) (hb _ [Value.ref x,Value.ref p] I3.kIn hlen) vv hsp) fun r s' hq=>?_)
     match r,hq with
     | .error e',hq=>exact(show False from hq).elim
     | .ok .next,hq=>exact hq.elim
     | .ok .brk,hq=>exact hq.elim
     | .ok .cont,hq=>exact hq.elim
     | .ok (.ret u),hq=>
       obtain⟨v,H',os',bare',un',hok',rv',rfl,dx,ndx,nex,rfl⟩:=hq;cases(show u=Value.none from rv');refine⟨rfl,z40 (wpAny_holding (wpAny_point (z5e ?_)))⟩;have I4:Inv X pins σ _ s':=I3.call' os' un' hok' bare' fun b hb=>absurd hb (by simp);obtain⟨y1,_,_⟩:=hk s'.heap I4.kIn;have ee:(upd (upd (upd H2 x (.ext (ExN x C))) x (.ext (ExD x C dx))) dx (.xd [(n,.ref p)])) x=some (.ext (ExD x C dx)):=by rw[zz (z5x nex),jh]
       obtain⟨te,he'⟩:=(show ExD x C dx s'.heap from(hok' x _ ee).1)
       refine⟨x,te,some dx,rfl,y1,he',?_⟩;have eH:(upd H2 dx (.xd [(n,.ref p)]))=fun z=>if z=x then none else (upd (upd (upd H2 x (.ext (ExN x C))) x (.ext (ExD x C dx))) dx (.xd [(n,.ref p)])) z:=by
         funext z;by_cases hz:z=x
         · subst hz;rw[z5o rfl,zz (z5x nex)];exact hx0
         · rw[z5l hz];by_cases hd:z=dx
           · subst hd;rw[jh,jh]
           · rw[zz hd,zz hd,zz hz,zz hz]
       have out:∀z,z≠x->(upd H2 dx (.xd [(n,.ref p)])) z=(upd (upd (upd H2 x (.ext (ExN x C))) x (.ext (ExD x C dx))) dx (.xd [(n,.ref p)])) z:=fun z hz=>by rw[eH];exact z5l hz
       have nx2:∀{z:Addr}{o:Obj},h2.get? z=some o->z≠x:=fun q z=>by subst z;rw[mk.new]at q;cases q
       have nxH:∀{z:Addr}{o:HO},H2 z=some o->z≠x:=fun q=>qh q hx0;have h3n:∀{z:Addr},z≠x->(upd H2 x (.ext (ExN x C))) z=H2 z:=fun hz=>zz hz;have unX:Un (frs X.stack) [] H2 (upd H2 dx (.xd [(n,.ref p)])) h2 s'.heap:={
         keep:=fun z o q nz hz hx=>un'.keep z o (mk.keeps z o q) (by rw[h3n (nx2 q)];exact nz) hz hx
         slot:=fun z o q nz hz hx=>un'.slot z o (mk.keeps z o q) (by rw[h3n (nx2 q)];exact nz) hz hx
         free:=fun z o q nz hx=>by rw[out z (nx2 q)];exact un'.free z o (mk.keeps z o q) (by rw[h3n (nx2 q)];exact nz) hx
         there:=fun z o q hx=>un'.there z o (mk.keeps z o q) hx
         tups:=fun z xs q=>by rw[out z (nxH q)];exact un'.tups z xs (by rw[h3n (nxH q)];exact q)
         frzs:=fun z o u q=>by rw[out z (nxH q)];exact un'.frzs z o u (by rw[h3n (nxH q)];exact q)
         tbls:=fun z ps q=>by rw[out z (nxH q)];exact un'.tbls z ps (by rw[h3n (nxH q)];exact q) }
       have okX:HOk X.prog X.w (upd H2 dx (.xd [(n,.ref p)])) s'.heap:=fun z o q=>by
         have hz:z≠x:=fun y=>by subst y;rw[zz (z5x nex),hx0]at q;cases q
         rw[out z hz]at q;have nn:∀{y:Addr}{o:HO},(upd (upd (upd H2 x (.ext (ExN x C))) x (.ext (ExD x C dx))) dx (.xd [(n,.ref p)])) y=some o->(∀φ,o≠.ext φ)->y≠x:=fun {y o} qy no z=>by subst z;rw[ee]at qy;exact no _ (z5s qy).symm
         exact(hok' z o q).stay (fun _ _ _ q=>q) (fun y qy=>by rw[out y (nn qy fun _ w=>by cases w)];exact qy) fun y xs qy=>by rw[out y (nn qy fun _ w=>by cases w)];exact qy
       refine hxe.first I2 os' bare' unX okX ⟨mk.new,by rw[zz (z5x nex)];exact hx0,_,_,he',rfl,rfl,rfl,rfl⟩ ?_
       have e2:=zco hS1 (p:=dx) (.xd [(n,.ref p)]) ndx;refine kk (.ref dx) (ρ1++[dx]) _ (E1.trans e2) (hS1.add ndx ⟨.ref p,jh,rv.mono e2⟩) fun _=>⟨dx,n,.tup ds,rfl,by simp,by simp⟩
   · cases hf2
 · cases hf1
end
def zo5(c n:Str)(f:E):E:=fun ev S=>(f ev S).bind fun p=>match p.1 with
 | .obj i=>(match p.2[i]? with
   | some (.xc c' j)=>if c'=c then (match p.2[j]? with
     |some (.xd n' d)=>if n'=n then some (d,p.2)else none
     |_=>none)else none
   |_=>none)
 |_=>none
structure XFld (K:zFr) (mg:zMg) (c n:Str):Prop where
 ex:∃C,mg c=some (.ref C)/\ExcIs K C/\findIn K (.ref C) n=some none/\hasDictIn K C=true
section
variable {X:Cx}{o:Expr}{f:E}{c n:Str}{pos:Pos}
theorem zo4{ev:Ev}{S S':Sto}{d:D}(h:zo5 c n f ev S=some (d,S')):∃i j,f ev S=some (.obj i,S')/\S'[i]? = some (.xc c j)/\S'[j]? = some (.xd n d):=by
 obtain⟨⟨x,S1⟩,q1,h⟩:=z5 h;dsimp only at h;cases x with
 | obj i=>
   dsimp only at h;cases hi:S1[i]? with
   |none=>rw[hi]at h;cases h
   | some m=>
     rw[hi]at h;cases m with
     | xc c' j=>
       dsimp only at h;by_cases ec:c'=c
       · rw[z5o ec]at h;cases hj:S1[j]? with
         |none=>rw[hj]at h;cases h
         | some m=>
           rw[hj]at h;cases m with
           | xd n' d'=>
             dsimp only at h;by_cases en:n'=n
             · rw[z5o en]at h;cases h;subst ec;subst en;exact⟨i,j,q1,hi,hj⟩
             · rw[z5l en]at h;cases h
           |_=>cases h
       · rw[z5l ec]at h;cases h
     |_=>cases h
 |_=>cases h
theorem zvi(hx:XFld X.K X.mg c n)(ho:FE X o f)(hb:attributeBase o n X.env (eval o X.env)=eval o X.env:=by rfl):FE X (.Attribute o n pos) (zo5 c n f):=by
 obtain⟨C,hm,hz,hn,hd⟩:=hx.ex;intro pins s σ H Q I t;obtain⟨ρ,ev,S,d,S1,hE,hS,hf,k⟩:=t;obtain⟨i,j,q1,hi,hj⟩:=zo4 hf;refine zpp hb (thn (ho pins s σ H (fun v H1=>∃ρ1,Ext ρ H ρ1 H1/\StOk X.K X.mg ρ1 H1 S1/\Rep X.K X.mg ρ1 H1 (.obj i) v) I ⟨ρ,ev,S,_,S1,hE,hS,q1,fun v ρ1 H1 a b c=>⟨ρ1,a,b,c⟩⟩) fun u s1 ⟨v,H1,I1,r,ρ1,E1,hS1,rx⟩=>?_);unfold Rep at rx;obtain⟨a,rfl,ha⟩:=rx;cases(show u=Value.ref a from r);obtain⟨C',dx,hC',hdx,hH⟩:=hS1.ob i _ a hi ha;rw[hm]at hC';cases hC';obtain⟨ob,vs,e1,e2,e3,e4⟩:=(I1.hok a _ hH).1;obtain⟨v,hv,rv⟩:=hS1.ob j _ dx hj hdx;obtain⟨mA,ns,rel⟩:=(show ObjOk X.prog X.w H1 s1.heap dx (.xd [(n,v)])from I1.hok dx _ hv)
 obtain⟨w,hw,rw_⟩:=RelO.some_of (v:=v) (o:=mA n) (by have:=rel n;simpa using this);obtain⟨od,hod,hl⟩:=zic ns;have ia:InstAt s1.heap a ob C (some od):=⟨e1,e2,by unfold notCls;rw[e4],by rw[e3];exact hod⟩
 exact zvg I1.kIn ia hz (findObj_own hd hn rfl (by rw[hl,hw])) (zie rw_) ⟨v,H1,I1.tok _,rw_,k v ρ1 H1 E1 hS1 rv⟩
end
def zjv(l:List Str)(c:Str):Bool:=decide (c∈l)
theorem zgi{P:Str->Prop}{l:List Str}(h:∀c∈l,P c):∀c,zjv l c=true->P c:=fun c e=>h c (z67 e)
theorem zy7{mg:zMg}:∀c p,hNo c=some p->∃C,mg c=some (.ref C):=fun c p e=>nomatch e
theorem zsp{K:zFr}{mg:zMg}{cat no:Str->Bool}{i:Option Nat}{d:C}{T:Str}{f:Str->Option (Option Nat×C)}(h:∀c,cat c=true->CatB K mg c T true)(hf:∀c p,f c=some p->∃C,mg c=some (.ref C)) :
   ∀c p,hAs cat i d no f c=some p->∃C,mg c=some (.ref C):=fun c p e=>by
 unfold hAs at e;split at e
 · rename_i hc;obtain⟨C,_,z,_⟩:=h c hc;exact⟨C,z⟩
 · split at e
   · exact hf c p e
   · cases e
def zo0(K:zFr)(C f:Addr):Bool:=match K.lookup C with
 | some ⟨.type "type",_,.cls cd,sl⟩=>(match cd.mro,sl.toList with
   | .ref C'::bm,[_,_,_,_,some (.builtin nid),_]=>decide (C'=C)&&decide (nid="ValueError.__new__")&&!cd.hasDel&&tailIn K zds bm&&nsOkIn K cd.ns&&(nsIn K cd.ns "__init__"==some (some (.ref f)))
   |_,_=>false)
 |_=>false
theorem zs8{K:zFr}{C f:Addr}(q:zo0 K C f=true):z0h K C f:=by
 unfold zo0 at q;split at q
 · rename_i dd cd sl ho;split at q
   · rename_i C' bm k0 k1 k2 k3 nid k5 hmro hs;simp only[z5k,z6n,z5b,Bool.not_eq_true']at q;obtain⟨⟨⟨⟨⟨rfl,rfl⟩,hdel⟩,ht⟩,hok⟩,hni⟩:=q;obtain⟨nm,bs,mro,ns,qn,hd,sn,sub,ab,col,del⟩:=cd;dsimp only at hmro hdel hok hni;subst hmro;subst hdel;have hsl:sl=#[k0,k1,k2,k3,some (.builtin "ValueError.__new__"),k5]:=by
       cases sl with
       |mk l=>simp only at hs;subst hs;rfl
     subst hsl;unfold nsOkIn at hok;split at hok
     · rename_i oc od es ep osl hN;have hk:StrKeys es:=fun e he=>by
         have z:=z7q.mp hok e he;cases hkey:e.key with
         |str n t=>exact⟨n,t,rfl⟩
         |_=>rw[hkey]at z;cases z
       have hi:nsFind es "__init__"=some (.ref f):=by
         unfold nsIn at hni;rw[hN]at hni;dsimp only at hni;split at hni
         · rename_i en he;unfold nsFind findBy;rw[<-z8h,he];simpa using hni
         · first | cases hni | (split at hni<;>cases hni)
       exact⟨ns,nm,qn,bs,bm,hd,sn,sub,ab,col,dd,k0,k1,k2,k3,k5,nsFind es,zgm ht,hi,fun h X=>⟨X _ _ ho,⟨_,es,ep,X _ _ hN,rfl,hk,fun _=>rfl⟩,tail_of_in X ht⟩⟩
     · cases hok
   · cases q
 · cases q
def z3m(K:zFr)(C:Addr):Bool:=match clsIn K C with
 | some cd=>(match cd.mro with
   | .ref _::.ref _::r=>r==zds
   |_=>false)
 |none=>false
section
variable {K:zFr}{mg:zMg}{h:Heap}
theorem has_xi(KX:K.In h)(G:h.Ns mainGlobals mg){cn bn n qual:Str}{st:Stmt}{C f S:Addr}{oc:Value}{od an:Option Addr}{osl:Array (Option Value)}{kV doc pm cdv ct:Value}(aC:nsIn K mainGlobals cn=some (some (.ref C)))(aS:nsIn K mainGlobals bn=some (some (.ref S)))
   (a:findIn K (.ref C) "__init__"=some (some (.ref f))) (i:isFn K (.ref f)=true)
   (l:K.lookup f=some ⟨oc,od,.func (fnOf "__init__" qual (zbv st) (xo st) (zg st) .none kV doc pm an cdv ct),osl⟩) (c:codeIn K cdv qual=true) (k:keepIn K (.ref f)=true)
   (sa:findIn K (.ref C) "__setattr__"=some (some (.builtin "object.__setattr__"))) (na:findIn K (.ref C) n=some none) (hd:hasDictIn K C=true)
   (x1:zo0 K C f=true) (x2:z3m K C=true) (r1:readsIn K S (.type "type")=true) (r2:findCls K (.ref S) (.type "type") "__init__"=some (.val (.builtin "ValueError.__init__"))) (r3:specialIn K (.ref S) "__getattribute__"=some (some (.builtin "type.__getattribute__"))) :
   HasXI K mg cn bn n qual st:=by
 refine⟨⟨C,f,_,⟨⟨oc,od,kV,doc,pm,an,cdv,ct,osl,rfl,l,c⟩,k⟩,mg_of KX G aC,zs8 x1,i,sa,na,hd,?_⟩,⟨S,mg_of KX G aS,r1,r2,r3⟩⟩;unfold z3m at x2;split at x2
 · rename_i cd hc;split at x2
   · rename_i a b r hm;exact⟨cd,[.ref a,.ref b],hc,by rw[hm,z6n.mp x2];rfl,fun y hy=>by
       rcases z5z.mp hy with rfl | hy
       · exact⟨_,rfl⟩
       · rw[z5i.mp hy];exact⟨_,rfl⟩⟩
   · cases x2
 · cases x2
theorem has_xf(KX:K.In h)(G:h.Ns mainGlobals mg){c n:Str}{C:Addr}(a:nsIn K mainGlobals c=some (some (.ref C)))(e:ExcI K mg c)(na:findIn K (.ref C) n=some none)(hd:hasDictIn K C=true):XFld K mg c n:=by obtain⟨C',m1,m2,_⟩:=e;rw[mg_of KX G a]at m1;cases m1;exact⟨C,mg_of KX G a,m2,na,hd⟩
theorem has_ctb(KX:K.In h)(G:h.Ns mainGlobals mg){c d:Str}{C D:Addr}{b:Bool}(a:nsIn K mainGlobals c=some (some (.ref C)))(a':nsIn K mainGlobals d=some (some (.ref D)))(h1:mroIn K C (.ref D)=some b)(h2:mroIn K D (.type "BaseException")=some true)
   (h3:typeIn K (.ref D)=some (.type "type")) (h4:hasDictIn K D=true):CatB K mg c d b:=⟨C,D,mg_of KX G a,mg_of KX G a',h1,h2,h3,zk8 h4⟩
end
end F
namespace F
open PySem L2 PySem.Spec PyProof.Rows
def zay(f g:E):E:=fun ev S=>(f ev S).or (g ev S)
theorem zdo{X:Cx}{e:Expr}{f g:E}(h1:FE X e f)(h2:FE X e g):FE X e (zay f g):=by
 intro pins s σ H Q I t;obtain⟨ρ,ev,S,d,S',hE,hS,hf,k⟩:=t;unfold zay at hf;cases q:f ev S with
 |some r=>rw[q]at hf;cases hf;exact h1 pins s σ H Q I ⟨ρ,ev,S,d,S',hE,hS,q,k⟩
 |none=>rw[q]at hf;exact h2 pins s σ H Q I ⟨ρ,ev,S,d,S',hE,hS,hf,k⟩
theorem zsd{X:Cx}{e:Expr}{r1 r2:R}(h1:RE X e r1)(h2:RE X e r2):RE X e (rOr r1 r2):=fun pins s σ H E Q hx I t=>by
 rcases zwo t with t | t
 · exact h1 pins s σ H E Q hx I t
 · exact h2 pins s σ H E Q hx I t
theorem znl{X:Cx}{e:Expr}{es:List Expr}{r:R}{pos:Pos}{x1}(h:RE X e r)(hst:starEach (e::es) X.env=(false,eval e X.env)::starEach es X.env:=by exact qm rfl):RE X (.Tuple (e::es) x1 pos) r:=by intro pins s σ H E Q hx I t;refine wpAny_Tuple_spliced ?_;rw[hst];show wpAny _ _ (spliced ((false,eval e X.env)::backTo pos (starEach es X.env))) _ _ s;exact z7k (h pins s σ H E _ hx I t)
def zcj(S:Sto):D->D->Option D
 | .obj a,.lst []=>(match S[a]? with
   |some (.lst as)=>some (.bl as.isEmpty)
   |_=>none)
 |_,_=>none
def z3g(K:zFr):R2:=fun x y H Q=>∃p p' vs,x=.ref p/\y=.ref p'/\SqL K H p vs/\SqL K H p' []/\Q (.bl vs.isEmpty) H
theorem zqw{X:Cx}(hu:X.A.units+150<cLine):OpR X (compareOp .Eq) (z3g X.K):=by
 intro pins s σ H x y v u Q I rx ry h;obtain⟨p,p',vs,rfl,rfl,s1,s2,q⟩:=h;cases(show v=Value.ref p from rx);cases(show u=Value.ref p' from ry);obtain⟨its,z1,pt1,_⟩:=I.list s1;obtain⟨its2,z2,pt2,_⟩:=I.list s2;have l1:=z1.length;have l2:=z2.length;have hu0:X.A.units<cLine:=by omega
 cases z2;cases vs with
 | nil=>
   cases z1;have rc:=SeqAt.RcAt.lists (A:=X.A) (s:=s) (e:=fun _=>true) pt1.isList pt2.isList rfl hu0 (fun j h1 h2=>absurd h1 (by simp));exact rc _ _ _ _ ⟨.bl true,H,I,rfl,q⟩
 | cons a r=>
   have hsz:(its.toArray.size != ([]:List Value).toArray.size)=true:=by rw[z46,<-l1];rfl
   have rc:=SeqAt.RcAt.lists_lengths (A:=X.A) (s:=s) pt1.isList pt2.isList hsz hu0;exact rc _ _ _ _ ⟨.bl false,H,I,rfl,q⟩
theorem zm1{K:zFr}{mg:zMg}:zi8 K mg (z3g K) zcj:=by
 intro ρ H S x y dx dy d Q hS rx ry e k;unfold zcj at e;split at e
 · rename_i a;split at e
   · rename_i as hi;cases e;unfold Rep at rx;obtain⟨p,rfl,hp⟩:=rx;obtain⟨p',us,rfl,t,r⟩:=ry.refL;unfold RepL at r;subst r;obtain⟨vs,h1,h2⟩:=hS.ob a _ p hi hp;have hl:=h2.length;have e1:vs.isEmpty=as.isEmpty:=by cases vs<;>cases as<;>first | rfl | cases hl
     exact⟨p,p',vs,rfl,rfl,.inl (.inl h1),t.sq,k _ H (Ext.refl _ _) hS (by rw[e1];rfl)⟩
   · cases e
 · cases e
theorem zrp{X:Cx}{a b:Expr}{f g:E}{pos:Pos}{k:Nat}(hr:Room k X.A)(ha:FE X a f)(hb:FE X b g)(hm:behindInMarks .Eq b=false:=by exact za0 _):FB X (.Compare a [.Eq] [b] pos) (bE (e2s zcj f g)):=zcd (zqw (by have:=hr.un;omega)) zm1 ha hb hm
theorem zvk{X:Cx}{a b c:Expr}{f g h:E}{pos:Pos}(ha:FE X a f)(hb:FE X b g)(hc:FE X c h)(hm:lastMarks [.Lt,.Lt] [b,c]=false:=by with_unfolding_all rfl):FB X (.Compare a [.Lt,.Lt] [b,c] pos) (bE (zbu zai zai f g h)) :=
 zdh (zko zny zny ha hb hc hm) fun _ _ _ h=>zp4 (fun _ h=>zmv zap zap h) h
end F
namespace Mt
open PySem L2 F
def isI:D->Option Int
 | .int i=>some i
 |_=>none
def isS:D->Option Str
 | .str i=>some i
 |_=>none
def isP:D->Option (Int×Int)
 | .tup [.int a,.int b]=>some (a,b)
 |_=>none
def ad(k:Nat)(x y:D):D:=match k with
 |1=>(match isI x,isI y with | some i,some j=>.int (i+j) | _,_=>.non)
 |2=>(match isS x,isS y with | some i,some j=>.str (i++j) | _,_=>.non)
 |3=>(match isP x,isP y with | some p,some q=>.tup [.int (p.1*q.1%1000003),.int ((p.2*q.1+q.2)%1000003)] | _,_=>.non)
 |4=>(match isI x,isI y with | some i,some j=>.int (if j>i then j else i) | _,_=>.non)
 |_=>.non
theorem zmw(a b c:Str):a++b++c=a++(b++c):=by show Str.mk ((a.cps++b.cps)++c.cps)=Str.mk (a.cps++(b.cps++c.cps));rw[Array.append_assoc]
theorem zti(a b:Str):(a++b).length=a.length+b.length:=z8o a b
theorem ad1(x y:D):ad 1 x y=match isI x,isI y with | some i,some j=>.int (i+j) | _,_=>.non:=rfl
theorem ad2(x y:D):ad 2 x y=match isS x,isS y with | some i,some j=>.str (i++j) | _,_=>.non:=rfl
theorem ad4(x y:D):ad 4 x y=match isI x,isI y with | some i,some j=>.int (if j>i then j else i) | _,_=>.non:=rfl
theorem ad3(x y:D):ad 3 x y=match isP x,isP y with | some p,some q=>.tup [.int (p.1*q.1%1000003),.int ((p.2*q.1+q.2)%1000003)] | _,_=>.non:=rfl
theorem mm(a b m:Int):(a%m*b)%m=a*b%m:=by rw[Int.mul_emod,Int.emod_emod_of_dvd _ (Int.dvd_refl m),<-Int.mul_emod]
theorem mm'(a b m:Int):(b*(a%m))%m=b*a%m:=by rw[Int.mul_comm,mm,Int.mul_comm]
theorem am(a b m:Int):(a%m+b)%m=(a+b)%m:=by rw[Int.add_emod,Int.emod_emod_of_dvd _ (Int.dvd_refl m),<-Int.add_emod]
theorem zr3(k:Nat)(x y z:D):ad k (ad k x y) z=ad k x (ad k y z):=by
 match k with
 |0=>rfl
 | 1=>
   simp only[ad1];cases h1:isI x<;>cases h2:isI y<;>cases h3:isI z<;>simp[isI,Int.add_assoc]
 | 2=>
   simp only[ad2];cases h1:isS x<;>cases h2:isS y<;>cases h3:isS z<;>simp[isS,zmw]
 | 3=>
   simp only[ad3];cases h1:isP x<;>cases h2:isP y<;>cases h3:isP z<;>simp[isP];rename_i p q r;constructor
   · rw[mm,mm',Int.mul_assoc]
   · rw[<-am (_*_) _ 1000003,mm,<-am (p.snd*_) _ 1000003,mm',am,am];congr 1;rw[Int.add_mul,Int.mul_assoc,Int.add_assoc]
 | 4=>
   simp only[ad4];cases h1:isI x<;>cases h2:isI y<;>cases h3:isI z<;>simp[isI]
   repeat' split
   all_goals omega
 |n+5=>rfl
def zdd(k:Nat):List D->D
 | []=>.non
 |t::r=>if k=0 then .non else r.foldl (ad k) t
theorem zh1(ts:List D):zdd 0 ts=.non:=by cases ts<;>rfl
theorem zou(k:Nat)(a:D):∀(r:List D) (b:D),r.foldl (ad k) (ad k a b)=ad k a (r.foldl (ad k) b)
 | [],_=>rfl
 | c::r,b=>by show r.foldl (ad k) (ad k (ad k a b) c)=ad k a (r.foldl (ad k) (ad k b c));rw[zr3,zou k a r]
theorem za3{k:Nat}(hk:k≠0){xs ys:List D}(hx:xs≠[])(hy:ys≠[]):zdd k (xs++ys)=ad k (zdd k xs) (zdd k ys):=by
 cases xs with
 |nil=>exact absurd rfl hx
 | cons x xs=>
   cases ys with
   |nil=>exact absurd rfl hy
   | cons y ys=>
     show(if k=0 then D.non else (xs++y::ys).foldl (ad k) x)=ad k (if k=0 then D.non else xs.foldl (ad k) x) (if k=0 then D.non else ys.foldl (ad k) y);rw[z5l hk,z5l hk,z5l hk,List.foldl_append,List.foldl_cons,zou]
theorem zcq{k:Nat}(hk:k≠0)(t:D):zdd k [t]=t:=by show(if k=0 then D.non else t)=t;rw[z5l hk]
def Th(k n:Nat)(d:D):Prop:=match k with
 |1=>∃i,d=.int i
 |2=>∃z,d=.str z/\z.length<=8*n
 |3=>∃a b,d=.tup [.int a,.int b]/\0<=a/\a<1000003/\0<=b/\b<1000003
 |4=>∃i,d=.int i
 |_=>False
def Thing(k:Nat)(d:D):Prop:=match k with
 |0=>(∃i,d=.int i)\/∃z,d=.str z/\z.length<=8
 |k=>Th k 1 d
theorem Th.ad{k n m:Nat}{x y:D}(hx:Th k n x)(hy:Th k m y):Th k (n+m) (ad k x y):=by
 match k,hx,hy with
 |0,h,_=>exact h.elim
 |1,⟨i,e⟩,⟨j,e'⟩=>subst e e';exact⟨_,rfl⟩
 |2,⟨i,e,h⟩,⟨j,e',h'⟩=>subst e e';exact⟨_,rfl,by rw[zti];omega⟩
 | 3,⟨a,b,e,h⟩,⟨c,d,e',h'⟩=>
   subst e e';exact⟨_,_,rfl,z6d _ (by decide),z54 _ (by decide),z6d _ (by decide),z54 _ (by decide)⟩
 |4,⟨i,e⟩,⟨j,e'⟩=>subst e e';exact⟨_,rfl⟩
 |n+5,h,_=>exact h.elim
theorem Thing.th{k:Nat}{d:D}(hk:k≠0)(h:Thing k d):Th k 1 d:=by
 match k,hk,h with
 |0,hk,_=>exact absurd rfl hk
 |k+1,_,h=>exact h
theorem zke{k:Nat}(hk:k≠0):∀{ts:List D},ts≠[]->(∀t∈ts,Thing k t)->Th k ts.length (zdd k ts)
 | [],h,_=>absurd rfl h
 | [t],_,h=>by rw[zcq hk];exact(h t (by simp)).th hk
 | t::u::r,_,h=>by rw[show t::u::r=[t]++(u::r)from rfl,za3 hk (by simp) (by simp),zcq hk];have:=((h t (by simp)).th hk).ad (zke hk (ts:=u::r) (by simp) fun x hx=>h x (z5d _ hx));rw[Nat.add_comm]at this;exact this
def ord(a:Bool)(xs:List D):List D:=if a=true then xs.reverse else xs
theorem zah(a:Bool)(xs:List D):(ord a xs).length=xs.length:=by unfold ord;split<;>simp
def mkD(num:Int)(a:Bool)(l t r:D)(sz ht:Int)(to ba:D):D:=.tup [.int num,.bl a,l,t,r,.int sz,.int ht,to,ba]
inductive Mk (k:Nat):D->List D->Nat->Prop where
 |non:Mk k .non [] 0
 | node {num:Int}{a:Bool}{l t r:D}{lt rt:List D}{lh rh:Nat}:Mk k l lt lh->Mk k r rt rh->Thing k t->lh<=rh+1->rh<=lh+1 ->
   Mk k (mkD num a l t r (lt.length+1+rt.length:Nat) (max lh rh+1:Nat) (zdd k (ord a (lt++t::rt))) (zdd k (ord a (lt++t::rt)).reverse)) (ord a (lt++t::rt)) (max lh rh+1)
theorem Mk.things{k d ts h}(m:Mk k d ts h):∀t∈ts,Thing k t:=by
 induction m with
 |non=>intro t ht;cases ht
 | @node num a l t r lt rt lh rh ml mr ht _ _ il ir=>
   intro x hx;have:x∈lt++t::rt:=by
     unfold ord at hx;split at hx
     · exact z72.mp hx
     · exact hx
   rcases z6m.mp this with q | q
   · exact il x q
   · rcases z5z.mp q with rfl | q
     · exact ht
     · exact ir x q
end Mt
namespace Pg
open PySem L2 F Mt
variable {k:Nat}{d l r t:D}{ts lt rt:List D}{h lh rh:Nat}{S S1:Sto}{ev e:Ev}
theorem zr6:(2:Nat)<=sizeLine:=by decide
theorem zo1(i j:Int):ki (.int i) (.int j)=some (.bl (i==j)):=rfl
theorem kn{i:Nat}{a b:MO}(h:S[i]? = some a):(S.set i b)[i]? = some b:=z5m (z4y.mp h).1
theorem zxb{i j:Nat}(hij:i≠j)(b:MO):(S.set i b)[j]? = S[j]?:=z43 hij
def Ok(c:C)(ev:Ev)(S:Sto):Prop:=∃S',c ev S=some (.rt (.bl true),S')
theorem zl{i:Nat}{f:E}(h:f ev S=some (d,S1)):qv i f ev S=some (.nx (ev.set i (some d)),S1):=by simp[qv,h]
theorem zk{c:B}{a:C}(h:c ev S=some (false,S1)):sIf c a jz ev S=some (.nx ev,S1):=by simp[sIf,h,jz]
theorem zy{c:B}{a b:C}{o:Out}{S2:Sto}(h:c ev S=some (true,S1))(q:a ev S1=some (o,S2)):sIf c a b ev S=some (o,S2):=by simp[sIf,h,q]
theorem qp{f:E}{b:Bool}(h:f ev S=some (.bl b,S1)):bE f ev S=some (b,S1):=by simp[bE,h]
theorem zwf{u:B}(h:u ev S=some (true,S1)):zmg u ev S=some (false,S1):=by simp[zmg,h]
theorem z4q{u:B}(h:u ev S=some (false,S1)):zmg u ev S=some (true,S1):=by simp[zmg,h]
theorem zau{u v:B}(h:u ev S=some (false,S1)):zca u v ev S=some (false,S1):=by simp[zca,h]
theorem zd0{u v:B}{b:Bool}{S2:Sto}(h:u ev S=some (true,S1))(q:v ev S1=some (b,S2)):zca u v ev S=some (b,S2):=by simp[zca,h,q]
theorem z22{u v:B}(h:u ev S=some (true,S1)):bOr u v ev S=some (true,S1):=by simp[bOr,h]
theorem z23{u v:B}{b:Bool}{S2:Sto}(h:u ev S=some (false,S1))(q:v ev S1=some (b,S2)):bOr u v ev S=some (b,S2):=by simp[bOr,h,q]
theorem e_2{op:D->D->Option D}{f g:E}{x y z:D}{S2:Sto}(h:f ev S=some (x,S1))(q:g ev S1=some (y,S2))(o:op x y=some z):e2 op f g ev S=some (z,S2):=by simp[e2,h,q,o]
theorem qs{op:Sto->D->D->Option D}{f g:E}{x y z:D}{S2:Sto}(h:f ev S=some (x,S1))(q:g ev S1=some (y,S2))(o:op S2 x y=some z):e2s op f g ev S=some (z,S2):=by simp[e2s,h,q,o]
theorem e_1{op:D->Option D}{f:E}{x z:D}(h:f ev S=some (x,S1))(o:op x=some z):e1 op f ev S=some (z,S1):=by simp[e1,h,o]
theorem e_v{i:Nat}(h:ev[i]? = some (some d)):eV i ev S=some (d,S):=by simp[eV,h]
theorem e_k:eK d ev S=some (d,S):=rfl
theorem a_n:aN ev S=some ([],S):=rfl
theorem a_c{f:E}{g:As}{ds:List D}{S2:Sto}(h:f ev S=some (d,S1))(q:g ev S1=some (ds,S2)):aC f g ev S=some (d::ds,S2):=by simp[aC,h,q]
theorem zi{g:G}{a:As}{ds:List D}{S2:Sto}(h:a ev S=some (ds,S1))(q:g ds S1=some (d,S2)):zn g a ev S=some (d,S2):=by simp[zn,h,q]
theorem e_a{op:Sto->List D->Option D}{a:As}{ds:List D}(h:a ev S=some (ds,S1))(o:op S1 ds=some d):eA op a ev S=some (d,S1):=by simp[eA,h,o]
theorem jo{a:As}{ds:List D}(h:a ev S=some (ds,S1))(hl:ds.length<=16777216):xq a ev S=some (.tup ds,S1):=by have hz:sizeLine=16777216:=z55;simp[xq,eA,h,hz,hl]
theorem zl6{a:As}{ds:List D}(h:a ev S=some (ds,S1))(hl:ds.length<=16777216):zjr a ev S=some (.lst ds,S1):=by have hz:sizeLine=16777216:=z55;simp[zjr,eA,h,hz,hl]
theorem zgg{a:As}{ds:List D}(h:a ev S=some (ds,S1))(hl:ds.length<=16777216):zc7 a ev S=some (.obj S1.length,S1++[.lst ds]):=by have hz:sizeLine=16777216:=z55;simp[zc7,h,hz,hl]
theorem qo{c m:Str}{g:G}{f:E}{a:As}{i:Nat}{fs:List (Str×D)}{ds:List D}{S2 S3:Sto}(h:f ev S=some (.obj i,S1))(hi:yo c S1 (.obj i)=some (i,fs))(hm:fs.lookup m=none)(ha:a ev S1=some (ds,S2))(q:g (.obj i::ds) S2=some (d,S3)) :
   zw c m g f a ev S=some (d,S3):=by simp[zw,h,hi,hm,ha,q]
theorem zb8{c n:Str}{f:E}{i:Nat}{fs:List (Str×D)}(h:f ev S=some (.obj i,S1))(hi:yo c S1 (.obj i)=some (i,fs))(hm:fs.lookup n=some d):yj c n f ev S=some (d,S1):=by simp[yj,h,hi,hm]
theorem zmk{f:E}{a b:Pt}{x:D}{lo hi:Option Int}{S2 S3:Sto}(h:f ev S=some (x,S1))(ha:a ev S1=some (lo,S2))(hb:b ev S2=some (hi,S3))(o:zye x lo hi=some d):eSl f a b ev S=some (d,S3):=by simp[eSl,h,ha,hb,o]
theorem p_n:pN ev S=some (none,S):=rfl
theorem p_e{f:E}{i:Int}(h:f ev S=some (.int i,S1)):pE f ev S=some (some i,S1):=by simp[pE,h]
theorem z2u{f:E}{b:Bool}(h:f ev S=some (.bl b,S1)):z0x f ev S=some (.bl !b,S1):=by simp[z0x,e1,h]
theorem add_int(i j:Int):qb (.int i) (.int j)=some (.int (i+j)):=rfl
theorem sub_int(i j:Int):zad (.int i) (.int j)=some (.int (i-j)):=rfl
theorem zbg{xs ys:List D}(h:xs.length+ys.length<=16777216):qb (.lst xs) (.lst ys)=some (.lst (xs++ys)):=by have hz:sizeLine=16777216:=z55;simp[qb,hz,h]
theorem zhw{x:D}{xs ys:List D}(h:(x::xs).length+ys.length<=16777216):qb (.tup (x::xs)) (.tup ys)=some (.tup (x::xs++ys)):=by have hz:sizeLine=16777216:=z55;simp only[qb,hz,z5o h]
def pl:Nat->D->Bool
 |_,.non=>true
 |_,.bl _=>true
 |_,.int _=>true
 |_,.str _=>true
 |n+1,.tup ds=>ds.all (pl n)
 |n+1,.lst ds=>ds.all (pl n)
 |_,_=>false
theorem zhc{f:D->D->Option Bool}:∀{ds:List D},(∀x∈ds,f x x=some true)->eqL f ds ds=some true
 | [],_=>rfl
 |x::ds,h=>by simp[eqL,h x (by simp),zhc fun y hy=>h y (z5d _ hy)]
theorem zk5:∀{n:Nat}{d:D},pl n d=true->eqN n d d=some true:=by
 intro n
 induction n with
 |zero=>intro d h;cases d<;>first | (cases h;done) | simp[eqN,eqF,zfa,eqV]
 | succ n ih=>
   intro d h;cases d with
   | tup ds=>
     have h:ds.all (pl n)=true:=h;exact zhc fun x hx=>ih (z51.mp h x hx)
   | lst ds=>
     have h:ds.all (pl n)=true:=h;have q:eqL (eqN n) ds ds=some true:=zhc fun x hx=>ih (z51.mp h x hx);simp[eqN,q]
   |_=>first | (cases h;done) | simp[eqN,eqF,zfa,eqV,zol]
theorem zeu:∀{n m:Nat}{d:D},n<=m->pl n d=true->pl m d=true:=by
 intro n
 induction n with
 |zero=>intro m d _ h;cases d<;>first | (cases h;done) | (cases m<;>rfl)
 | succ n ih=>
   intro m d hm h;cases m with
   |zero=>omega
   | succ m=>
     cases d with
     |tup ds=>exact z51.mpr fun x hx=>ih (by omega) (z51.mp h x hx)
     |lst ds=>exact z51.mpr fun x hx=>ih (by omega) (z51.mp h x hx)
     |_=>first | (cases h;done) | rfl
theorem z1o{n:Nat}{x:D}(hx:Th k n x):pl 1 x=true:=by
 match k,hx with
 |0,h=>exact h.elim
 |1,⟨i,e⟩=>subst e;rfl
 |2,⟨z,e,_⟩=>subst e;rfl
 |3,⟨a,b,e,_⟩=>subst e;rfl
 |4,⟨i,e⟩=>subst e;rfl
 |n+5,h=>exact h.elim
theorem zee{x:D}(hx:Thing k x):pl 1 x=true:=by
 match k,hx with
 |0,.inl ⟨i,e⟩=>subst e;rfl
 |0,.inr ⟨z,e,_⟩=>subst e;rfl
 |k+1,h=>exact z1o (k:=k+1) h
theorem z2s(h:pl 150 d=true):ki d d=some (.bl true):=by unfold ki;rw[zk5 h];rfl
theorem z1y(h:pl 150 d=true):zqz d d=some (.bl false):=by unfold zqz;rw[zk5 h];rfl
theorem zxw(hts:∀x∈ts,Thing k x):pl 2 (.lst ts)=true:=z51.mpr fun x hx=>zee (hts x hx)
theorem ju{N n:Nat}{c:C}{ds:List D}{S S':Sto}{d:D}(hl:ds.length=n)(h:c (ds.map some++List.replicate (N-ds.length) none) S=some (.rt d,S')):zu N n c ds S=some (d,S'):=by unfold zu;rw[z5o hl,h]
theorem zq{f:E}(h:f ev S=some (d,S1)):qz f ev S=some (.rt d,S1):=by simp[qz,h]
theorem qu{a b:C}(h:a ev S=some (.rt d,S1)):zt a b ev S=some (.rt d,S1):=by simp[zt,h]
theorem zeo{c:B}{a b:C}{o:Out}{S2:Sto}(h:c ev S=some (false,S1))(q:b ev S1=some (o,S2)):sIf c a b ev S=some (o,S2):=by simp[sIf,h,q]
theorem ze{a b:C}{o:Out}{S2:Sto}(h:a ev S=some (.nx e,S1))(q:b e S1=some (o,S2)):zt a b ev S=some (o,S2):=by simp[zt,h,q]
inductive Sv:D->Prop where
 |non:Sv .non
 |int (i:Int):Sv (.int i)
 |str (z:Str):Sv (.str z)
 |pair (a b:Int):Sv (.tup [.int a,.int b])
theorem zwr{n:Nat}{x:D}(hx:Th k n x):Sv x:=by
 match k,hx with
 |0,h=>exact h.elim
 |1,⟨i,e⟩=>subst e;exact .int _
 |2,⟨z,e,_⟩=>subst e;exact .str _
 |3,⟨a,b,e,_⟩=>subst e;exact .pair _ _
 |4,⟨i,e⟩=>subst e;exact .int _
 |n+5,h=>exact h.elim
theorem zp6{x:D}(hx:Thing k x):Sv x:=by
 match k,hx with
 |0,.inl ⟨i,e⟩=>subst e;exact .int _
 |0,.inr ⟨z,e,_⟩=>subst e;exact .str _
 |k+1,h=>exact zwr (k:=k+1) h
def low:Nat->Nat
 |0=>0
 |1=>1
 |h+2=>low (h+1)+low h+1
theorem zq8:∀h:Nat,low h<=low (h+1)
 |0=>by decide
 |1=>by decide
 | h+2=>by show low (h+2)<=low (h+2)+low (h+1)+1;omega
theorem zg2{a b:Nat}(h:a<=b):low a<=low b:=by
 induction b with
 |zero=>rw[Nat.le_zero.mp h];exact z45 _
 | succ b ih=>
   rcases z7z a (b+1)with q | q
   · exact z5p (ih (by omega)) (zq8 b)
   · rw[Nat.le_antisymm h q];exact z45 _
theorem zyq{k:Nat}{d:D}{ts:List D}{h:Nat}(m:Mk k d ts h):low h<=ts.length:=by
 induction m with
 |non=>decide
 | @node num a l t r lt rt lh rh ml mr ht h1 h2 il ir=>
   rw[zah,z41,List.length_cons];rcases Nat.le_total lh rh with q | q
   · rw[Nat.max_eq_right q];cases rh with
     | zero => have:lh=0:=by omega
               subst this;show 1<=_;omega
     | succ rh=>
       show low (rh+1)+low rh+1<=_;have:=zg2 (show rh<=lh by omega);omega
   · rw[Nat.max_eq_left q];cases lh with
     | zero => have:rh=0:=by omega
               subst this;show 1<=_;omega
     | succ lh=>
       show low (lh+1)+low lh+1<=_;have:=zg2 (show lh<=rh by omega);omega
theorem zcw{x j:Int}(h:0<j):jr (.int x) (.int j)=some (.int (x%j)):=by simp[jr,F.opI,z13,h]
theorem zhh{x j:Int}(h:0<j/\j<1073741824):zbk (.int x) (.int j)=some (.int (x/j)):=by simp[zbk,F.opI,z2w,h]
theorem zn5{x y:Int}(h:-(2^64)<x/\x<2^64):za4 (.int x) (.int y)=some (.int (x*y)):=by simp only[za4,F.opI,z0q];rw[z5o (.inl h)];rfl
theorem zkt{x y:Int}(h:-(2^64)<y/\y<2^64):za4 (.int x) (.int y)=some (.int (x*y)):=by simp only[za4,F.opI,z0q];rw[z5o (.inr (.inl h))];rfl
theorem zof(S:Sto)(x:MO):(S++[x])[S.length]? = some x:=by simp
end Pg
namespace Pg
open PySem L2 F
noncomputable section
def ct_NoMore:List Str:=["NoMore"]
def no_NoMore:List Str:=["Changed"]
def ct_Changed:List Str:=["Changed"]
def no_Changed:List Str:=["NoMore"]
def zbz:C :=
 (zt (qv 2 (yj "Wood" "nodes_made" (eV 0))) (zt (jm "Wood" "nodes_made" (eV 0) (e2 qb (eV 2) (eK (.int 1)))) (qz (e2 qb (xq (aC (eV 2) aN)) (eV 1)))))
def xy:G:=zu 3 2 zbz
def zis:C :=
 (sIf (bE (e2 zfq (eV 0) (eK (.int 2000)))) zbn jz)
def ky:G:=zu 1 1 zis
def zry:C :=
 (zt (sIf (bE (e2 zev (eV 0) (eK .non))) (qz (eK (.int 0))) jz) (qz (e2s z8 (eV 0) (eK (.int 6)))))
def j7:G:=zu 1 1 zry
def zcf:C :=
 (qz (e2 qb (eK (.int 1)) (eA zyr (aC (zn j7 (aC (eV 0) aN)) (aC (zn j7 (aC (eV 1) aN)) aN)))))
def yx:G:=zu 2 2 zcf
def zdz:C :=
 (qz (e2 zfv (eA z0f (aC (e2 zad (zn j7 (aC (eV 0) aN)) (zn j7 (aC (eV 1) aN))) aN)) (eK (.int 1))))
def kx:G:=zu 2 2 zdz
def zz3:C :=
 (zt (sIf (bE (e2 zev (eV 0) (eK .non))) (qz (eK (.int 0))) jz) (qz (e2s z8 (eV 0) (eK (.int 5)))))
def jk:G:=zu 1 1 zz3
def zdy:C :=
 (qz (e2 qb (e2 qb (zn jk (aC (eV 0) aN)) (eK (.int 1))) (zn jk (aC (eV 1) aN))))
def zaq:G:=zu 2 2 zdy
def zz7:C :=
 (zt (sIf (bE (e2 zev (eV 0) (eK .non))) (qz (eK .non)) jz) (qz (e2s z8 (eV 0) (eK (.int 8)))))
def ze9:G:=zu 1 1 zz7
def ft:Str->Option G:=fun x=>
 none
def zfy:C :=
 (zt (qv 4 (eV 2)) (zt (sIf (bE (e2 yc (eV 3) (eK .non))) (qv 4 (zce ft (eV 0) (aC (zn ze9 (aC (eV 3) aN)) (aC (eV 4) aN)))) jz) (zt (sIf (bE (e2 yc (eV 1) (eK .non))) (qv 4 (zce ft (eV 0) (aC (eV 4) (aC (zn ze9 (aC (eV 1) aN)) aN)))) jz) (qz (eV 4)))))
def zaw:G:=zu 5 4 zfy
def zvu:C :=
 (zt (sIf (bE (e2 zev (eV 0) (eK .non))) (qz (eK .non)) jz) (qz (e2s z8 (eV 0) (eK (.int 7)))))
def za7:G:=zu 1 1 zvu
def zir:C :=
 (zt (qv 4 (eV 2)) (zt (sIf (bE (e2 yc (eV 1) (eK .non))) (qv 4 (zce ft (eV 0) (aC (zn za7 (aC (eV 1) aN)) (aC (eV 4) aN)))) jz) (zt (sIf (bE (e2 yc (eV 3) (eK .non))) (qv 4 (zce ft (eV 0) (aC (eV 4) (aC (zn za7 (aC (eV 3) aN)) aN)))) jz) (qz (eV 4)))))
def zbr:G:=zu 5 4 zir
def zbx:C :=
 (zt (sIf (bE (e2 zev (eV 0) (eK .non))) (qz (xq (aC (eK .non) (aC (eK .non) aN)))) jz) (qz (xq (aC (zn zbr (aC (eV 0) (aC (eV 1) (aC (eV 2) (aC (eV 3) aN))))) (aC (zn zaw (aC (eV 0) (aC (eV 1) (aC (eV 2) (aC (eV 3) aN))))) aN)))))
def y6:G:=zu 4 4 zbx
def zj0:C :=
 (zt (qv 4 (zn zaq (aC (eV 1) (aC (eV 3) aN)))) (zt (kq (zn ky (aC (eV 4) aN))) (zt (sIf (zmg (bE (zn kx (aC (eV 1) (aC (eV 3) aN))))) zbn jz) (zt (qv 5 (xq (aC (eV 4) (aC (zn yx (aC (eV 1) (aC (eV 3) aN))) aN)))) (zt (qv 6 (zn y6 (aC (yj "Wood" "adding" (eV 0)) (aC (eV 1) (aC (eV 2) (aC (eV 3) aN)))))) (qz (zw "Wood" "numbered" xy (eV 0) (aC (e2 qb (e2 qb (xq (aC (eK (.bl false)) (aC (eV 1) (aC (eV 2) (aC (eV 3) aN))))) (eV 5)) (eV 6)) aN))))))))
def qa:G:=zu 7 4 zj0
def zvx(self:G):C :=
 (zt (sIf (bE (e2 ki (eV 2) (eV 3))) (qz (eK .non)) jz) (zt (qv 4 (e2 zbk (e2 qb (eV 2) (eV 3)) (eK (.int 2)))) (zt (qv 5 (zn (self) (aC (eV 0) (aC (eV 1) (aC (eV 2) (aC (eV 4) aN)))))) (zt (qv 6 (zn (self) (aC (eV 0) (aC (eV 1) (aC (e2 qb (eV 4) (eK (.int 1))) (aC (eV 3) aN)))))) (qz (zw "Wood" "node" qa (eV 0) (aC (eV 5) (aC (e2s z8 (eV 1) (eV 4)) (aC (eV 6) aN)))))))))
def zg8:Nat->G
 |0=>fun _ _=>none
 |k+1=>zu 7 4 (zvx (zg8 k))
def zpi:C :=
 (zt (kq (zn ky (aC (eA y9 (aC (eV 1) aN)) aN))) (qz (zn (zg8 40) (aC (eV 0) (aC (eV 1) (aC (eK (.int 0)) (aC (eA y9 (aC (eV 1) aN)) aN)))))))
def za1:G:=zu 2 2 zpi
def zbj:C :=
 (zt (jm "Shelf" "wood" (eV 0) (eV 1)) (zt (jm "Shelf" "held" (eV 0) (eK .non)) (zt (jm "Shelf" "done" (eV 0) (zc7 aN)) (sIf (bE (e2 yc (eV 2) (eK .non))) (jm "Shelf" "held" (eV 0) (zn za1 (aC (eV 1) (aC (eV 2) aN)))) jz))))
def z9:G:=zu 3 3 zbj
def zi0:C :=
 (zt (jm "Shelf" "held" (eV 0) (eV 1)) (kr (yj "Shelf" "done" (eV 0)) (eV 2)))
def jp:G:=zu 3 3 zi0
def zhn:C :=
 (sIf (zmg (bE (zbu zfv zai (eK (.int 0)) (eV 0) (eV 1)))) zbn jz)
def xk:G:=zu 2 2 zhn
def zhq:C :=
 (zt (sIf (bE (e2 zev (eV 1) (eK .non))) (qz (eK .non)) jz) (zt (qv 2 (xq (aC (e2s z8 (eV 1) (eK (.int 2))) (aC (e2s z8 (eV 1) (eK (.int 3))) (aC (e2s z8 (eV 1) (eK (.int 4))) aN))))) (qz (zw "Wood" "numbered" xy (eV 0) (aC (e2 qb (e2 qb (xq (aC (z0x (e2s z8 (eV 1) (eK (.int 1)))) aN)) (eV 2)) (xq (aC (zn jk (aC (eV 1) aN)) (aC (zn j7 (aC (eV 1) aN)) (aC (zn ze9 (aC (eV 1) aN)) (aC (zn za7 (aC (eV 1) aN)) aN)))))) aN)))))
def ji:G:=zu 3 2 zhq
def zph:C :=
 (zt (sIf (zmg (bE (e2s z8 (eV 1) (eK (.int 1))))) (qz (xq (aC (e2s z8 (eV 1) (eK (.int 2))) (aC (e2s z8 (eV 1) (eK (.int 3))) (aC (e2s z8 (eV 1) (eK (.int 4))) aN))))) jz) (zt (qv 2 (zw "Wood" "turned" ji (eV 0) (aC (e2s z8 (eV 1) (eK (.int 4))) aN))) (zt (qv 3 (zw "Wood" "turned" ji (eV 0) (aC (e2s z8 (eV 1) (eK (.int 2))) aN))) (qz (xq (aC (eV 2) (aC (e2s z8 (eV 1) (eK (.int 3))) (aC (eV 3) aN))))))))
def kl:G:=zu 4 2 zph
def zhm:C :=
 (zt (qv 4 (zn kl (aC (eV 0) (aC (eV 1) aN)))) (zt (sIf (bE (e2 zi9 (zn j7 (aC (e2s z8 (eV 4) (eK (.int 0))) aN)) (zn j7 (aC (e2s z8 (eV 4) (eK (.int 2))) aN)))) (qz (zw "Wood" "node" qa (eV 0) (aC (e2s z8 (eV 4) (eK (.int 0))) (aC (e2s z8 (eV 4) (eK (.int 1))) (aC (zw "Wood" "node" qa (eV 0) (aC (e2s z8 (eV 4) (eK (.int 2))) (aC (eV 2) (aC (eV 3) aN)))) aN))))) jz) (zt (qv 5 (zn kl (aC (eV 0) (aC (e2s z8 (eV 4) (eK (.int 2))) aN)))) (zt (qv 6 (zw "Wood" "node" qa (eV 0) (aC (e2s z8 (eV 4) (eK (.int 0))) (aC (e2s z8 (eV 4) (eK (.int 1))) (aC (e2s z8 (eV 5) (eK (.int 0))) aN))))) (zt (qv 7 (zw "Wood" "node" qa (eV 0) (aC (e2s z8 (eV 5) (eK (.int 2))) (aC (eV 2) (aC (eV 3) aN))))) (qz (zw "Wood" "node" qa (eV 0) (aC (eV 6) (aC (e2s z8 (eV 5) (eK (.int 1))) (aC (eV 7) aN))))))))))
def za9:G:=zu 8 4 zhm
def zfx:C :=
 (zt (qv 4 (zn kl (aC (eV 0) (aC (eV 3) aN)))) (zt (sIf (bE (e2 zi9 (zn j7 (aC (e2s z8 (eV 4) (eK (.int 2))) aN)) (zn j7 (aC (e2s z8 (eV 4) (eK (.int 0))) aN)))) (qz (zw "Wood" "node" qa (eV 0) (aC (zw "Wood" "node" qa (eV 0) (aC (eV 1) (aC (eV 2) (aC (e2s z8 (eV 4) (eK (.int 0))) aN)))) (aC (e2s z8 (eV 4) (eK (.int 1))) (aC (e2s z8 (eV 4) (eK (.int 2))) aN))))) jz) (zt (qv 5 (zn kl (aC (eV 0) (aC (e2s z8 (eV 4) (eK (.int 0))) aN)))) (zt (qv 6 (zw "Wood" "node" qa (eV 0) (aC (eV 1) (aC (eV 2) (aC (e2s z8 (eV 5) (eK (.int 0))) aN))))) (zt (qv 7 (zw "Wood" "node" qa (eV 0) (aC (e2s z8 (eV 5) (eK (.int 2))) (aC (e2s z8 (eV 4) (eK (.int 1))) (aC (e2s z8 (eV 4) (eK (.int 2))) aN))))) (qz (zw "Wood" "node" qa (eV 0) (aC (eV 6) (aC (e2s z8 (eV 5) (eK (.int 1))) (aC (eV 7) aN))))))))))
def zav:G:=zu 8 4 zfx
def zmc:C :=
 (zt (sIf (bE (zn kx (aC (eV 1) (aC (eV 3) aN)))) (qz (zw "Wood" "node" qa (eV 0) (aC (eV 1) (aC (eV 2) (aC (eV 3) aN))))) jz) (zt (sIf (bE (e2 zfq (zn j7 (aC (eV 1) aN)) (zn j7 (aC (eV 3) aN)))) (qz (zn za9 (aC (eV 0) (aC (eV 1) (aC (eV 2) (aC (eV 3) aN)))))) jz) (qz (zn zav (aC (eV 0) (aC (eV 1) (aC (eV 2) (aC (eV 3) aN))))))))
def xn:G:=zu 4 4 zmc
def zrx(self:G):C :=
 (zt (sIf (bE (zn kx (aC (eV 1) (aC (eV 3) aN)))) (qz (zw "Wood" "node" qa (eV 0) (aC (eV 1) (aC (eV 2) (aC (eV 3) aN))))) jz) (zt (sIf (bE (e2 zfq (zn j7 (aC (eV 1) aN)) (zn j7 (aC (eV 3) aN)))) (zt (qv 4 (zn kl (aC (eV 0) (aC (eV 1) aN)))) (qz (zn xn (aC (eV 0) (aC (e2s z8 (eV 4) (eK (.int 0))) (aC (e2s z8 (eV 4) (eK (.int 1))) (aC (zn (self) (aC (eV 0) (aC (e2s z8 (eV 4) (eK (.int 2))) (aC (eV 2) (aC (eV 3) aN))))) aN))))))) jz) (zt (qv 4 (zn kl (aC (eV 0) (aC (eV 3) aN)))) (qz (zn xn (aC (eV 0) (aC (zn (self) (aC (eV 0) (aC (eV 1) (aC (eV 2) (aC (e2s z8 (eV 4) (eK (.int 0))) aN))))) (aC (e2s z8 (eV 4) (eK (.int 1))) (aC (e2s z8 (eV 4) (eK (.int 2))) aN)))))))))
def zae:Nat->G
 |0=>fun _ _=>none
 |k+1=>zu 5 4 (zrx (zae k))
def zjw(self:G):C :=
 (zt (sIf (bE (e2 ki (eV 2) (eK (.int 0)))) (qz (xq (aC (eK .non) (aC (eV 1) aN)))) jz) (zt (sIf (bE (e2 ki (eV 2) (zn jk (aC (eV 1) aN)))) (qz (xq (aC (eV 1) (aC (eK .non) aN)))) jz) (zt (qv 3 (zn kl (aC (eV 0) (aC (eV 1) aN)))) (zt (qv 4 (zn jk (aC (e2s z8 (eV 3) (eK (.int 0))) aN))) (zt (sIf (bE (e2 zfv (eV 2) (eV 4))) (zt (qv 5 (zn (self) (aC (eV 0) (aC (e2s z8 (eV 3) (eK (.int 0))) (aC (eV 2) aN))))) (qz (xq (aC (e2s z8 (eV 5) (eK (.int 0))) (aC (zn (zae 40) (aC (eV 0) (aC (e2s z8 (eV 5) (eK (.int 1))) (aC (e2s z8 (eV 3) (eK (.int 1))) (aC (e2s z8 (eV 3) (eK (.int 2))) aN))))) aN))))) jz) (zt (qv 5 (zn (self) (aC (eV 0) (aC (e2s z8 (eV 3) (eK (.int 2))) (aC (e2 zad (e2 zad (eV 2) (eV 4)) (eK (.int 1))) aN))))) (qz (xq (aC (zn (zae 40) (aC (eV 0) (aC (e2s z8 (eV 3) (eK (.int 0))) (aC (e2s z8 (eV 3) (eK (.int 1))) (aC (e2s z8 (eV 5) (eK (.int 0))) aN))))) (aC (e2s z8 (eV 5) (eK (.int 1))) aN))))))))))
def yp:Nat->G
 |0=>fun _ _=>none
 |k+1=>zu 6 3 (zjw (yp k))
def z20:C :=
 (zt (kq (zn xk (aC (eV 2) (aC (e2 qb (zn jk (aC (eV 1) aN)) (eK (.int 1))) aN)))) (qz (zn (yp 40) (aC (eV 0) (aC (eV 1) (aC (eV 2) aN))))))
def zu5:G:=zu 3 3 z20
def zj3:C :=
 (zt (qv 2 (zn zu5 (aC (yj "Shelf" "wood" (eV 0)) (aC (yj "Shelf" "held" (eV 0)) (aC (eV 1) aN))))) (zt (qv 3 (zbe "Shelf" (zpx 1 z9) (aC (yj "Shelf" "wood" (eV 0)) aN))) (zt (jm "Shelf" "held" (eV 3) (e2s z8 (eV 2) (eK (.int 1)))) (zt (kq (zw "Shelf" "hold" jp (eV 0) (aC (e2s z8 (eV 2) (eK (.int 0))) (aC (xq (aC (eK (.str (Str.ofString "cut"))) (aC (eV 1) aN))) aN)))) (qz (eV 3))))))
def yu:G:=zu 4 2 zj3
def ziy:C :=
 (qz (yj "Shelf" "held" (eV 0)))
def qg:G:=zu 1 1 ziy
def zz4:C :=
 (zt (sIf (bE (e2 ki (e2s z8 (eV 0) (eK (.int 1))) (eV 1))) (qz (xq (aC (e2s z8 (eV 0) (eK (.int 2))) (aC (e2s z8 (eV 0) (eK (.int 3))) (aC (e2s z8 (eV 0) (eK (.int 4))) (aC (eK (.bl false)) aN)))))) jz) (qz (xq (aC (e2s z8 (eV 0) (eK (.int 4))) (aC (e2s z8 (eV 0) (eK (.int 3))) (aC (e2s z8 (eV 0) (eK (.int 2))) (aC (eK (.bl true)) aN)))))))
def zk1:G:=zu 2 2 zz4
def zrz(self:G):C :=
 (zt (sIf (bE (e2 zev (eV 0) (eK .non))) zxd jz) (zt (qv 3 (zn zk1 (aC (eV 0) (aC (eV 1) aN)))) (zt (kq (zn (self) (aC (e2s z8 (eV 3) (eK (.int 0))) (aC (e2s z8 (eV 3) (eK (.int 3))) (aC (eV 2) aN))))) (zt (kr (eV 2) (e2s z8 (eV 3) (eK (.int 1)))) (kq (zn (self) (aC (e2s z8 (eV 3) (eK (.int 2))) (aC (e2s z8 (eV 3) (eK (.int 3))) (aC (eV 2) aN)))))))))
def zeg:Nat->G
 |0=>fun _ _=>none
 |k+1=>zu 4 3 (zrz (zeg k))
def zfj:C :=
 (zt (qv 1 (zc7 aN)) (zt (kq (zn (zeg 40) (aC (eV 0) (aC (eK (.bl false)) (aC (eV 1) aN))))) (qz (eV 1))))
def za8:G:=frz (zu 2 1 zfj)
def zf0:C :=
 (qz (zn za8 (aC (yj "Shelf" "held" (eV 0)) aN)))
def yz:G:=zu 1 1 zf0
def zan:C :=
 (zt (jm "Wood" "adding" (eV 0) (eV 1)) (jm "Wood" "nodes_made" (eV 0) (eK (.int 0))))
def jt:G:=zu 2 2 zan
def zmd:C :=
 (zt (zmj [3,4,5,6,7] (eV 0)) (zt (sIf (zca (bE (e2 ki (eV 3) (eK (.int 2)))) (bE (e2 yc (eV 7) (eK .non)))) (qz (xq (aC (eK (.str (Str.ofString "changed"))) (aC (eV 7) aN)))) jz) (zt (sIf (bE (e2 ki (eV 3) (eK (.int 1)))) (qv 5 (eV 1)) jz) (zt (sIf (zmg (bE (eV 2))) (qz (xq (aC (e2 zai (eV 6) (eA y9 (aC (eV 5) aN))) aN))) jz) (zt (sIf (bE (e2 ki (eV 6) (eA y9 (aC (eV 5) aN)))) (qz (xq (aC (eK (.str (Str.ofString "none"))) (aC (eK .non) aN)))) jz) (qz (xq (aC (e2s z8 (eV 5) (eV 6)) aN))))))))
def ya:G:=zu 8 3 zmd
def zht:C :=
 (qz (yi (aC (yj "Shelf" "done" (eV 0)) aN)))
def je:G:=zu 1 1 zht
def zbl:C :=
 (qz (eSl (zw "Shelf" "deeds" je (yj "AsItStands" "shelf" (eV 0)) aN) (pE (yj "AsItStands" "met" (eV 0))) pN))
def yk:G:=zu 1 1 zbl
def zvv:C :=
 (zt (qv 2 (e2s z8 (eV 1) (eK (.int 0)))) (zt (sIf (zca (bE (e2 ki (eV 2) (eK (.str (Str.ofString "put"))))) (bE (e2 zai (e2s z8 (eV 1) (eK (.int 1))) (eV 0)))) (qz (e2 qb (eV 0) (eK (.int 1)))) jz) (zt (sIf (zca (bE (e2 ki (eV 2) (eK (.str (Str.ofString "out"))))) (bE (e2 zai (e2s z8 (eV 1) (eK (.int 1))) (eV 0)))) (qz (e2 zad (eV 0) (eK (.int 1)))) jz) (zt (sIf (zca (bE (e2 ki (eV 2) (eK (.str (Str.ofString "turned"))))) (bE (zbu zai zai (e2s z8 (eV 1) (eK (.int 1))) (eV 0) (e2s z8 (eV 1) (eK (.int 2)))))) (qz (e2s z8 (eV 1) (eK (.int 2)))) jz) (zt (sIf (zca (bE (e2 ki (eV 2) (eK (.str (Str.ofString "cut"))))) (bE (e2 zai (e2s z8 (eV 1) (eK (.int 1))) (eV 0)))) (qz (e2s z8 (eV 1) (eK (.int 1)))) jz) (zt (sIf (bE (e2 ki (eV 2) (eK (.str (Str.ofString "back"))))) (qz (e2s z8 (eV 1) (eK (.int 1)))) jz) (qz (eV 0))))))))
def zg6:G:=zu 3 2 zvv
def zd8:C :=
 (zt (zqb 1 (zw "AsItStands" "new_deeds" yk (eV 0) aN) (zt (jm "AsItStands" "mark" (eV 0) (zn zg6 (aC (yj "AsItStands" "mark" (eV 0)) (aC (eV 1) aN)))) (jm "AsItStands" "met" (eV 0) (e2 qb (yj "AsItStands" "met" (eV 0)) (eK (.int 1)))))) (qz (zw "Shelf" "make" qg (yj "AsItStands" "shelf" (eV 0)) aN)))
def jw:G:=zu 2 1 zd8
def zdr:C :=
 (zt (qv 1 (zw "AsItStands" "row" jw (eV 0) aN)) (qz (e2 zai (yj "AsItStands" "mark" (eV 0)) (zn jk (aC (eV 1) aN)))))
def kg:G:=zu 2 1 zdr
def zmb(self:G):C :=
 (zt (qv 3 (zn zk1 (aC (eV 0) (aC (eV 1) aN)))) (zt (qv 4 (zn jk (aC (e2s z8 (eV 3) (eK (.int 0))) aN))) (zt (sIf (bE (e2 zai (eV 2) (eV 4))) (qz (zn (self) (aC (e2s z8 (eV 3) (eK (.int 0))) (aC (e2s z8 (eV 3) (eK (.int 3))) (aC (eV 2) aN))))) jz) (zt (sIf (bE (e2 zfq (eV 2) (eV 4))) (qz (zn (self) (aC (e2s z8 (eV 3) (eK (.int 2))) (aC (e2s z8 (eV 3) (eK (.int 3))) (aC (e2 zad (e2 zad (eV 2) (eV 4)) (eK (.int 1))) aN))))) jz) (qz (e2s z8 (eV 3) (eK (.int 1))))))))
def kv:Nat->G
 |0=>fun _ _=>none
 |k+1=>zu 5 3 (zmb (kv k))
def z4p:C :=
 (zt (kq (zn xk (aC (eV 1) (aC (zn jk (aC (eV 0) aN)) aN)))) (qz (zn (kv 40) (aC (eV 0) (aC (eK (.bl false)) (aC (eV 1) aN))))))
def zwd:G:=zu 2 2 z4p
def zdq:C :=
 (zt (qv 1 (zw "AsItStands" "row" jw (eV 0) aN)) (zt (sIf (bE (e2 zi9 (yj "AsItStands" "mark" (eV 0)) (zn jk (aC (eV 1) aN)))) zbn jz) (zt (qv 2 (zn zwd (aC (eV 1) (aC (yj "AsItStands" "mark" (eV 0)) aN)))) (zt (jm "AsItStands" "mark" (eV 0) (e2 qb (yj "AsItStands" "mark" (eV 0)) (eK (.int 1)))) (qz (eV 2))))))
def j8:G:=zu 3 1 zdq
def zct:R :=
 (zt9 (qv 1 (zw "AsItStands" "row" jw (eV 0) aN)) (rIf (bE (e2 zi9 (yj "AsItStands" "mark" (eV 0)) (zn jk (aC (eV 1) aN)))) (zf6 "NoMore" (aC (eK (.str (Str.ofString "there is none more"))) aN)) zno))
def jq:GR:=zfn 3 1 zct
def zfm:C :=
 (qz (yj "AsItStood" "stood" (eV 0)))
def x4:G:=zu 1 1 zfm
def zd7:C :=
 (zt (qv 1 (zw "AsItStood" "row" x4 (eV 0) aN)) (qz (e2 zai (yj "AsItStood" "mark" (eV 0)) (zn jk (aC (eV 1) aN)))))
def ko:G:=zu 2 1 zd7
def zd6:C :=
 (zt (qv 1 (zw "AsItStood" "row" x4 (eV 0) aN)) (zt (sIf (bE (e2 zi9 (yj "AsItStood" "mark" (eV 0)) (zn jk (aC (eV 1) aN)))) zbn jz) (zt (qv 2 (zn zwd (aC (eV 1) (aC (yj "AsItStood" "mark" (eV 0)) aN)))) (zt (jm "AsItStood" "mark" (eV 0) (e2 qb (yj "AsItStood" "mark" (eV 0)) (eK (.int 1)))) (qz (eV 2))))))
def xm:G:=zu 3 1 zd6
def zdg:R :=
 (zt9 (qv 1 (zw "AsItStood" "row" x4 (eV 0) aN)) (rIf (bE (e2 zi9 (yj "AsItStood" "mark" (eV 0)) (zn jk (aC (eV 1) aN)))) (zf6 "NoMore" (aC (eK (.str (Str.ofString "there is none more"))) aN)) zno))
def jv:GR:=zfn 3 1 zdg
def zda:C :=
 (qz (eSl (zw "Shelf" "deeds" je (yj "Strict" "shelf" (eV 0)) aN) (pE (yj "Strict" "met" (eV 0))) pN))
def jd:G:=zu 1 1 zda
def ziw:C :=
 (zt (qv 1 (zw "Strict" "new_deeds" jd (eV 0) aN)) (zt (sIf (bE (e2 zfq (eA y9 (aC (eV 1) aN)) (eK (.int 0)))) zbn jz) (qz (yj "Strict" "stood" (eV 0)))))
def xz:G:=zu 2 1 ziw
def zgx:R :=
 (zt9 (qv 1 (zw "Strict" "new_deeds" jd (eV 0) aN)) (rIf (bE (e2 zfq (eA y9 (aC (eV 1) aN)) (eK (.int 0)))) (zgy "Changed" (Str.ofString "the shelf has changed: ") "deed" (aC (e2s z8 (eV 1) (eK (.int 0))) aN)) zno))
def j9:GR:=zfn 2 1 zgx
def zhs:C :=
 (zt (qv 1 (zw "Strict" "row" xz (eV 0) aN)) (qz (e2 zai (yj "Strict" "mark" (eV 0)) (zn jk (aC (eV 1) aN)))))
def ye:G:=zu 2 1 zhs
def zfu:R :=
 (zch "Strict" "row" j9 (eV 0) aN)
def ka:GR:=zfn 2 1 zfu
def zhr:C :=
 (zt (qv 1 (zw "Strict" "row" xz (eV 0) aN)) (zt (sIf (bE (e2 zi9 (yj "Strict" "mark" (eV 0)) (zn jk (aC (eV 1) aN)))) zbn jz) (zt (qv 2 (zn zwd (aC (eV 1) (aC (yj "Strict" "mark" (eV 0)) aN)))) (zt (jm "Strict" "mark" (eV 0) (e2 qb (yj "Strict" "mark" (eV 0)) (eK (.int 1)))) (qz (eV 2))))))
def kf:G:=zu 3 1 zhr
def zft:R :=
 (rOr (zch "Strict" "row" j9 (eV 0) aN) (zt9 (qv 1 (zw "Strict" "row" xz (eV 0) aN)) (rIf (bE (e2 zi9 (yj "Strict" "mark" (eV 0)) (zn jk (aC (eV 1) aN)))) (zf6 "NoMore" (aC (eK (.str (Str.ofString "there is none more"))) aN)) zno)))
def xf:GR:=zfn 3 1 zft
def zit:C :=
 (zt (qv 2 (eK .non)) (zt (zgt (sIf (bE (eV 1)) (qv 2 (xq (aC (zay (zw "AsItStood" "step" xm (eV 0) aN) (zay (zw "AsItStands" "step" j8 (eV 0) aN) (zw "Strict" "step" kf (eV 0) aN))) aN))) (qv 2 (xq (aC (zay (zw "AsItStood" "more" ko (eV 0) aN) (zay (zw "AsItStands" "more" kg (eV 0) aN) (zw "Strict" "more" ye (eV 0) aN))) aN)))) (rIf (bE (eV 1)) (rOr (zch "AsItStood" "step" jv (eV 0) aN) (rOr (zch "AsItStands" "step" jq (eV 0) aN) (zch "Strict" "step" xf (eV 0) aN))) (zch "Strict" "more" ka (eV 0) aN)) (hAs (zjv ct_Changed) (some 3) (qv 2 (xq (aC (eK (.str (Str.ofString "changed"))) (aC (zo5 "Changed" "deed" (eV 3)) aN)))) (zjv no_Changed) (hAs (zjv ct_NoMore) none (qv 2 (xq (aC (eK (.str (Str.ofString "none"))) (aC (eK .non) aN)))) (zjv no_NoMore) hNo))) (qz (eV 2))))
def xu:G:=frz (zu 4 2 zit)
def ziv:C :=
 (zt (qv 3 (zn ya (aC (eV 0) (aC (eV 1) (aC (eV 2) aN))))) (zt (sIf (bE (e2 zqz (zn xu (aC (e2s z8 (eV 0) (eK (.int 1))) (aC (eV 2) aN))) (eV 3))) (qz (eK .non)) jz) (zt (zmj [4,5,6,7,8] (eV 0)) (zt (sIf (zca (bE (eV 2)) (bE (e2 ki (eA y9 (aC (eV 3) aN)) (eK (.int 1))))) (qv 7 (e2 qb (eV 7) (eK (.int 1)))) jz) (qz (xq (aC (eV 4) (aC (eV 5) (aC (eV 6) (aC (eV 7) (aC (eV 8) aN)))))))))))
def qq:G:=zu 9 3 ziv
def zb0:C :=
 (zt (jm "AsItStands" "shelf" (eV 0) (eV 1)) (zt (jm "AsItStands" "stood" (eV 0) (zw "Shelf" "make" qg (eV 1) aN)) (zt (jm "AsItStands" "met" (eV 0) (eA y9 (aC (zw "Shelf" "deeds" je (eV 1) aN) aN))) (jm "AsItStands" "mark" (eV 0) (eK (.int 0))))))
def x6:G:=zu 2 2 zb0
def zb9:C :=
 (zt (jm "AsItStood" "shelf" (eV 0) (eV 1)) (zt (jm "AsItStood" "stood" (eV 0) (zw "Shelf" "make" qg (eV 1) aN)) (zt (jm "AsItStood" "met" (eV 0) (eA y9 (aC (zw "Shelf" "deeds" je (eV 1) aN) aN))) (jm "AsItStood" "mark" (eV 0) (eK (.int 0))))))
def km:G:=zu 2 2 zb9
def zdp:C :=
 (zt (jm "Strict" "shelf" (eV 0) (eV 1)) (zt (jm "Strict" "stood" (eV 0) (zw "Shelf" "make" qg (eV 1) aN)) (zt (jm "Strict" "met" (eV 0) (eA y9 (aC (zw "Shelf" "deeds" je (eV 1) aN) aN))) (jm "Strict" "mark" (eV 0) (eK (.int 0))))))
def yr:G:=zu 2 2 zdp
def ziu:C :=
 (zt (sIf (bE (e2 ki (eV 1) (eK (.int 0)))) (qz (zbe "AsItStood" km (aC (eV 0) aN))) jz) (zt (sIf (bE (e2 ki (eV 1) (eK (.int 1)))) (qz (zbe "AsItStands" x6 (aC (eV 0) aN))) jz) (qz (zbe "Strict" yr (aC (eV 0) aN)))))
def xx:G:=zu 2 2 ziu
def zjx:C :=
 (zt (sIf (zca (bE (e2 ki (e2s z8 (eV 1) (eK (.int 0))) (eK (.str (Str.ofString "put"))))) (bE (e2 zai (e2s z8 (eV 1) (eK (.int 1))) (eV 0)))) (qz (e2 qb (eV 0) (eK (.int 1)))) jz) (zt (sIf (zca (bE (e2 ki (e2s z8 (eV 1) (eK (.int 0))) (eK (.str (Str.ofString "out"))))) (bE (e2 zai (e2s z8 (eV 1) (eK (.int 1))) (eV 0)))) (qz (e2 zad (eV 0) (eK (.int 1)))) jz) (zt (sIf (zca (bE (e2 ki (e2s z8 (eV 1) (eK (.int 0))) (eK (.str (Str.ofString "turned"))))) (zca (bE (e2 zai (e2s z8 (eV 1) (eK (.int 1))) (eV 0))) (bE (e2 zai (eV 0) (e2s z8 (eV 1) (eK (.int 2))))))) (qz (e2s z8 (eV 1) (eK (.int 2)))) jz) (zt (sIf (bOr (zca (bE (e2 ki (e2s z8 (eV 1) (eK (.int 0))) (eK (.str (Str.ofString "cut"))))) (bE (e2 zai (e2s z8 (eV 1) (eK (.int 1))) (eV 0)))) (bE (e2 ki (e2s z8 (eV 1) (eK (.int 0))) (eK (.str (Str.ofString "back")))))) (qz (e2s z8 (eV 1) (eK (.int 1)))) jz) (qz (eV 0))))))
def zbb:G:=zu 2 2 zjx
def zhp:C :=
 (zt (zmj [2,3,4,5,6] (eV 0)) (zt (sIf (bE (e2 ki (eV 2) (eK (.int 1)))) (qv 5 (zn zbb (aC (eV 5) (aC (eV 1) aN)))) jz) (zt (sIf (bE (e2 zev (eV 6) (eK .non))) (qv 6 (eV 1)) jz) (qz (xq (aC (eV 2) (aC (eV 3) (aC (eV 4) (aC (eV 5) (aC (eV 6) aN))))))))))
def ke:G:=zu 7 2 zhp
def zjz:C :=
 (zt (qv 2 (e2 qb (e2 za4 (e2 za4 (eV 1) (eV 1)) (eK (.int 7919))) (eK (.int 17)))) (zt (sIf (bE (e2 zfq (eA y9 (aC (eV 0) aN)) (eK (.int 0)))) (qv 2 (e2 qb (e2 jr (e2s z8 (eV 0) (e2 jr (eV 1) (eA y9 (aC (eV 0) aN)))) (e2 zqy (eK (.int 10)) (eK (.int 30)))) (e2 za4 (e2 zbk (eV 1) (eA y9 (aC (eV 0) aN))) (eK (.int 104729))))) jz) (qz (e2 jr (e2 za4 (e2 jr (e2 qb (e2 za4 (eV 2) (eK (.int 48271))) (e2 za4 (eV 1) (eK (.int 69621)))) (eK (.int 2147483647))) (e2 qb (e2 jr (eV 2) (eK (.int 65521))) (eK (.int 3)))) (eK (.int 999999937))))))
def yq:G:=zu 3 2 zjz
def zi1:C :=
 (kq (zw "Shelf" "hold" jp (eV 0) (aC (eV 1) (aC (xq (aC (eK (.str (Str.ofString "back"))) (aC (zn jk (aC (eV 1) aN)) aN))) aN))))
def zbt:G:=zu 2 2 zi1
def zby(self:G):C :=
 (zt (sIf (bE (e2 zev (eV 1) (eK .non))) (qz (eV 2)) jz) (zt (sIf (bE (e2 zev (eV 2) (eK .non))) (qz (eV 1)) jz) (qz (zn (zae 40) (aC (eV 0) (aC (eV 1) (aC (zn (kv 40) (aC (eV 2) (aC (eK (.bl false)) (aC (eK (.int 0)) aN)))) (aC (zn (self) (aC (eV 0) (aC (eV 2) (aC (eK (.int 0)) aN)))) aN))))))))
def xl(self:G):G:=zu 3 3 (zby self)
def zfk(self aux:G):C :=
 (zt (qv 3 (zn kl (aC (eV 0) (aC (eV 1) aN)))) (zt (qv 4 (zn jk (aC (e2s z8 (eV 3) (eK (.int 0))) aN))) (zt (sIf (bE (e2 zai (eV 2) (eV 4))) (qz (zn xn (aC (eV 0) (aC (zn (self) (aC (eV 0) (aC (e2s z8 (eV 3) (eK (.int 0))) (aC (eV 2) aN)))) (aC (e2s z8 (eV 3) (eK (.int 1))) (aC (e2s z8 (eV 3) (eK (.int 2))) aN)))))) jz) (zt (sIf (bE (e2 zfq (eV 2) (eV 4))) (qz (zn xn (aC (eV 0) (aC (e2s z8 (eV 3) (eK (.int 0))) (aC (e2s z8 (eV 3) (eK (.int 1))) (aC (zn (self) (aC (eV 0) (aC (e2s z8 (eV 3) (eK (.int 2))) (aC (e2 zad (e2 zad (eV 2) (eV 4)) (eK (.int 1))) aN)))) aN)))))) jz) (qz (zn (aux) (aC (eV 0) (aC (e2s z8 (eV 3) (eK (.int 0))) (aC (e2s z8 (eV 3) (eK (.int 2))) aN)))))))))
def xj:Nat->G
 |0=>fun _ _=>none
 |k+1=>zu 5 3 (zfk (xj k) (xl (xj k)))
def yd:G:=xl (xj 40)
def z2z:C :=
 (zt (kq (zn xk (aC (eV 2) (aC (zn jk (aC (eV 1) aN)) aN)))) (qz (zn (xj 40) (aC (eV 0) (aC (eV 1) (aC (eV 2) aN))))))
def zu4:G:=zu 3 3 z2z
def zj2:C :=
 (zt (qv 2 (zn zwd (aC (yj "Shelf" "held" (eV 0)) (aC (eV 1) aN)))) (zt (kq (zw "Shelf" "hold" jp (eV 0) (aC (zn zu4 (aC (yj "Shelf" "wood" (eV 0)) (aC (yj "Shelf" "held" (eV 0)) (aC (eV 1) aN)))) (aC (xq (aC (eK (.str (Str.ofString "out"))) (aC (eV 1) aN))) aN)))) (qz (eV 2))))
def zcm:G:=zu 3 2 zj2
def zvw(self:G):C :=
 (zt (qv 4 (zn kl (aC (eV 0) (aC (eV 1) aN)))) (zt (qv 5 (zn jk (aC (e2s z8 (eV 4) (eK (.int 0))) aN))) (zt (sIf (bE (e2 zai (eV 2) (eV 5))) (qz (zw "Wood" "node" qa (eV 0) (aC (zn (self) (aC (eV 0) (aC (e2s z8 (eV 4) (eK (.int 0))) (aC (eV 2) (aC (eV 3) aN))))) (aC (e2s z8 (eV 4) (eK (.int 1))) (aC (e2s z8 (eV 4) (eK (.int 2))) aN))))) jz) (zt (sIf (bE (e2 zfq (eV 2) (eV 5))) (qz (zw "Wood" "node" qa (eV 0) (aC (e2s z8 (eV 4) (eK (.int 0))) (aC (e2s z8 (eV 4) (eK (.int 1))) (aC (zn (self) (aC (eV 0) (aC (e2s z8 (eV 4) (eK (.int 2))) (aC (e2 zad (e2 zad (eV 2) (eV 5)) (eK (.int 1))) (aC (eV 3) aN))))) aN))))) jz) (qz (zw "Wood" "node" qa (eV 0) (aC (e2s z8 (eV 4) (eK (.int 0))) (aC (eV 3) (aC (e2s z8 (eV 4) (eK (.int 2))) aN)))))))))
def zg7:Nat->G
 |0=>fun _ _=>none
 |k+1=>zu 6 4 (zvw (zg7 k))
def zpg:C :=
 (zt (kq (zn xk (aC (eV 2) (aC (zn jk (aC (eV 1) aN)) aN)))) (qz (zn (zg7 40) (aC (eV 0) (aC (eV 1) (aC (eV 2) (aC (eV 3) aN)))))))
def ze8:G:=zu 4 4 zpg
def zix:C :=
 (kq (zw "Shelf" "hold" jp (eV 0) (aC (zn ze8 (aC (yj "Shelf" "wood" (eV 0)) (aC (yj "Shelf" "held" (eV 0)) (aC (eV 1) (aC (eV 2) aN))))) (aC (xq (aC (eK (.str (Str.ofString "swap"))) (aC (eV 1) aN))) aN))))
def zbs:G:=zu 3 3 zix
def zfl:C :=
 (sIf (zmg (bE (zhd zfv zfv zfv (eK (.int 0)) (eV 1) (eV 2) (zn jk (aC (eV 0) aN))))) zbn jz)
def zam:G:=zu 3 3 zfl
def zhl:C :=
 (zt (kq (zn zam (aC (eV 1) (aC (eV 2) (aC (eV 3) aN))))) (zt (qv 4 (zn (yp 40) (aC (eV 0) (aC (eV 1) (aC (eV 3) aN))))) (zt (qv 5 (zn (yp 40) (aC (eV 0) (aC (e2s z8 (eV 4) (eK (.int 0))) (aC (eV 2) aN))))) (zt (qv 6 (zn yd (aC (eV 0) (aC (e2s z8 (eV 5) (eK (.int 0))) (aC (zw "Wood" "turned" ji (eV 0) (aC (e2s z8 (eV 5) (eK (.int 1))) aN)) aN))))) (qz (zn yd (aC (eV 0) (aC (eV 6) (aC (e2s z8 (eV 4) (eK (.int 1))) aN)))))))))
def za6:G:=zu 7 4 zhl
def zfz:C :=
 (kq (zw "Shelf" "hold" jp (eV 0) (aC (zn za6 (aC (yj "Shelf" "wood" (eV 0)) (aC (yj "Shelf" "held" (eV 0)) (aC (eV 1) (aC (eV 2) aN))))) (aC (xq (aC (eK (.str (Str.ofString "turned"))) (aC (eV 1) (aC (eV 2) aN)))) aN))))
def zax:G:=zu 3 3 zfz
def zz6:C :=
 (zt (kq (zn ky (aC (e2 qb (zn jk (aC (eV 1) aN)) (zn jk (aC (eV 2) aN))) aN))) (qz (zn yd (aC (eV 0) (aC (eV 1) (aC (eV 2) aN))))))
def zos:G:=zu 3 3 zz6
def ziz:C :=
 (zt (qv 2 (zw "Shelf" "make" qg (eV 1) aN)) (kq (zw "Shelf" "hold" jp (eV 0) (aC (zn zos (aC (yj "Shelf" "wood" (eV 0)) (aC (yj "Shelf" "held" (eV 0)) (aC (eV 2) aN)))) (aC (xq (aC (eK (.str (Str.ofString "laid"))) (aC (zn jk (aC (eV 2) aN)) aN))) aN)))))
def zar:G:=zu 3 2 ziz
def zjy:C :=
 (zt (qv 5 (zdx [4] (zv6 (e2 jr (eV 3) (eK (.int 4)))) zmf (e2 qb (eV 1) (eV 0)))) (zt (sIf (zca (bE (e2 ki (e2 jr (e2 zbk (eV 3) (eK (.int 4))) (eK (.int 4))) (eK (.int 0)))) (bE (e2 zai (eA y9 (aC (eV 2) aN)) (eK (.int 60))))) (zt (kq (zw "Shelf" "laid" zar (eV 1) (aC (eV 1) aN))) (qz (xq (aC (e2 qb (eV 2) (eV 2)) (aC (xq (aC (eK (.str (Str.ofString "laid"))) (aC (eA y9 (aC (eV 2) aN)) aN))) aN))))) jz) (zt (kq (zw "Shelf" "laid" zar (eV 1) (aC (zbe "Shelf" z9 (aC (eV 0) (aC (eV 5) aN))) aN))) (qz (xq (aC (e2 qb (eV 2) (eV 5)) (aC (xq (aC (eK (.str (Str.ofString "laid"))) (aC (eA y9 (aC (eV 5) aN)) aN))) aN)))))))
def zbc:G:=zu 6 5 zjy
def zrw(self:G):C :=
 (zt (sIf (bE (e2 zev (eV 1) (eK .non))) (qz (zw "Wood" "node" qa (eV 0) (aC (eK .non) (aC (eV 3) (aC (eK .non) aN))))) jz) (zt (qv 4 (zn kl (aC (eV 0) (aC (eV 1) aN)))) (zt (qv 5 (zn jk (aC (e2s z8 (eV 4) (eK (.int 0))) aN))) (zt (sIf (bE (e2 zfv (eV 2) (eV 5))) (qz (zn xn (aC (eV 0) (aC (zn (self) (aC (eV 0) (aC (e2s z8 (eV 4) (eK (.int 0))) (aC (eV 2) (aC (eV 3) aN))))) (aC (e2s z8 (eV 4) (eK (.int 1))) (aC (e2s z8 (eV 4) (eK (.int 2))) aN)))))) jz) (qz (zn xn (aC (eV 0) (aC (e2s z8 (eV 4) (eK (.int 0))) (aC (e2s z8 (eV 4) (eK (.int 1))) (aC (zn (self) (aC (eV 0) (aC (e2s z8 (eV 4) (eK (.int 2))) (aC (e2 zad (e2 zad (eV 2) (eV 5)) (eK (.int 1))) (aC (eV 3) aN))))) aN))))))))))
def zef:Nat->G
 |0=>fun _ _=>none
 |k+1=>zu 6 4 (zrw (zef k))
def z2y:C :=
 (zt (kq (zn xk (aC (eV 2) (aC (e2 qb (zn jk (aC (eV 1) aN)) (eK (.int 1))) aN)))) (zt (kq (zn ky (aC (e2 qb (zn jk (aC (eV 1) aN)) (eK (.int 1))) aN))) (qz (zn (zef 40) (aC (eV 0) (aC (eV 1) (aC (eV 2) (aC (eV 3) aN))))))))
def zu3:G:=zu 4 4 z2y
def zj1:C :=
 (kq (zw "Shelf" "hold" jp (eV 0) (aC (zn zu3 (aC (yj "Shelf" "wood" (eV 0)) (aC (yj "Shelf" "held" (eV 0)) (aC (eV 1) (aC (eV 2) aN))))) (aC (xq (aC (eK (.str (Str.ofString "put"))) (aC (eV 1) aN))) aN))))
def zcl:G:=zu 3 3 zj1
def zho:C :=
 (zt (qv 4 (e2 jr (eV 2) (e2 qb (eA y9 (aC (eV 1) aN)) (eK (.int 1))))) (zt (kq (zw "Shelf" "put" zcl (eV 0) (aC (eV 4) (aC (eV 3) aN)))) (qz (xq (aC (e2 qb (e2 qb (eSl (eV 1) pN (pE (eV 4))) (zjr (aC (eV 3) aN))) (eSl (eV 1) (pE (eV 4)) pN)) (aC (xq (aC (eK (.str (Str.ofString "put"))) (aC (eV 4) aN))) aN))))))
def zba:G:=zu 5 4 zho
def zcp:C :=
 (zt (qv 6 (e2 jr (eV 4) (eK (.int 9)))) (zt (qv 4 (e2 zbk (eV 4) (eK (.int 9)))) (zt (sIf (zca (bE (e2 ki (eV 6) (eK (.int 1)))) (bE (e2 zqz (eV 2) (zjr aN)))) (zt (qv 7 (e2 jr (eV 4) (eA y9 (aC (eV 2) aN)))) (zt (kq (zw "Shelf" "out" zcm (eV 1) (aC (eV 7) aN))) (qz (xq (aC (e2 qb (eSl (eV 2) pN (pE (eV 7))) (eSl (eV 2) (pE (e2 qb (eV 7) (eK (.int 1)))) pN)) (aC (xq (aC (eK (.str (Str.ofString "out"))) (aC (eV 7) aN))) aN)))))) jz) (zt (sIf (zca (bE (e2 ki (eV 6) (eK (.int 2)))) (bE (e2 zqz (eV 2) (zjr aN)))) (zt (qv 7 (e2 jr (eV 4) (eA y9 (aC (eV 2) aN)))) (zt (kq (zw "Shelf" "swap" zbs (eV 1) (aC (eV 7) (aC (eV 5) aN)))) (qz (xq (aC (e2 qb (e2 qb (eSl (eV 2) pN (pE (eV 7))) (zjr (aC (eV 5) aN))) (eSl (eV 2) (pE (e2 qb (eV 7) (eK (.int 1)))) pN)) (aC (xq (aC (eK (.str (Str.ofString "swap"))) (aC (eV 7) aN))) aN)))))) jz) (zt (sIf (bE (e2 zv9 (eV 6) (xq (aC (eK (.int 3)) (aC (eK (.int 4)) aN))))) (zt (qv 8 (e2 jr (eV 4) (e2 qb (eA y9 (aC (eV 2) aN)) (eK (.int 1))))) (zt (qv 9 (e2 qb (eV 8) (e2 jr (e2 zbk (eV 4) (eK (.int 64))) (e2 zad (e2 qb (eA y9 (aC (eV 2) aN)) (eK (.int 1))) (eV 8))))) (zt (kq (zw "Shelf" "turned" zax (eV 1) (aC (eV 8) (aC (eV 9) aN)))) (qz (xq (aC (e2 qb (e2 qb (eSl (eV 2) pN (pE (eV 8))) (zc8 (eSl (eV 2) (pE (eV 8)) (pE (eV 9))))) (eSl (eV 2) (pE (eV 9)) pN)) (aC (xq (aC (eK (.str (Str.ofString "turned"))) (aC (eV 8) (aC (eV 9) aN)))) aN))))))) jz) (zt (sIf (bE (e2 ki (eV 6) (eK (.int 5)))) (qz (zn zbc (aC (eV 0) (aC (eV 1) (aC (eV 2) (aC (eV 4) (aC (eV 5) aN))))))) jz) (zt (sIf (bE (e2 ki (eV 6) (eK (.int 6)))) (zt (qv 7 (e2 zad (eA y9 (aC (eV 2) aN)) (e2 zbk (e2 jr (eV 4) (e2 qb (eA y9 (aC (eV 2) aN)) (eK (.int 1)))) (eK (.int 2))))) (zt (kq (zw "Shelf" "cut" yu (eV 1) (aC (eV 7) aN))) (qz (xq (aC (eSl (eV 2) pN (pE (eV 7))) (aC (xq (aC (eK (.str (Str.ofString "cut"))) (aC (eV 7) aN))) aN)))))) jz) (zt (sIf (zca (bE (e2 ki (eV 6) (eK (.int 7)))) (bE (e2 ki (e2 jr (eV 4) (eK (.int 2))) (eK (.int 0))))) (zt (zmj [10,11] (e2s z8 (eV 3) (e2 jr (e2 zbk (eV 4) (eK (.int 2))) (eA y9 (aC (eV 3) aN))))) (zt (kq (zw "Shelf" "back" zbt (eV 1) (aC (eV 10) aN))) (qz (xq (aC (yi (aC (eV 11) aN)) (aC (xq (aC (eK (.str (Str.ofString "back"))) (aC (eA y9 (aC (eV 11) aN)) aN))) aN)))))) jz) (qz (zn zba (aC (eV 1) (aC (eV 2) (aC (eV 4) (aC (eV 5) aN))))))))))))))
def xw:G:=frz2 (zu 12 6 zcp)
end
end Pg
namespace Pg
open PySem L2 F Mt
class Kd (k:Nat):Prop where
 ne:k=0
variable {k:Nat} [Kd k] {S:Sto}
def fnm(_:Nat):Str:=""
def yb(k:Nat):D:=if k=0 then .non else .fn (fnm k)
theorem z0d{x y:D}{n m:Nat}(hx:Th k n x)(hy:Th k m y)(hn:n+m<=4000):∃g,ft (fnm k)=some g/\∀S,g [x,y] S=some (ad k x y,S):=by have h4:=Kd.ne (k:=k);subst h4;exact hx.elim
end Pg
namespace Pg
open PySem L2 F Mt
variable {k:Nat} [Kd k] {d l r t:D}{ts lt rt:List D}{h lh rh:Nat}{S S1:Sto}{ev e:Ev}
theorem zsb(a b c d e f g h i:D)(S:Sto):jk [.tup [a,b,c,d,e,f,g,h,i]] S=some (f,S):=rfl
theorem zk0(a b c d e f g h i:D)(S:Sto):j7 [.tup [a,b,c,d,e,f,g,h,i]] S=some (g,S):=rfl
theorem zmu(a b c d e f g h i:D)(S:Sto):za7 [.tup [a,b,c,d,e,f,g,h,i]] S=some (h,S):=rfl
theorem zs4(a b c d e f g h i:D)(S:Sto):ze9 [.tup [a,b,c,d,e,f,g,h,i]] S=some (i,S):=rfl
theorem q9(m:Mk k d ts h)(S:Sto):jk [d] S=some (.int ts.length,S):=by
 cases m with
 |non=>rfl
 |node _ _ _ _ _=>rw[mkD,zsb,zah];simp;omega
theorem jb(m:Mk k d ts h)(S:Sto):j7 [d] S=some (.int h,S):=by
 cases m with
 |non=>rfl
 |node _ _ _ _ _=>rw[mkD,zk0]
theorem zkc(m:Mk k d ts h)(S:Sto):za7 [d] S=some (zdd k ts,S):=by
 cases m with
 |non=>rfl
 |node _ _ _ _ _=>rw[mkD,zmu]
theorem zpo(m:Mk k d ts h)(S:Sto):ze9 [d] S=some (zdd k ts.reverse,S):=by
 cases m with
 |non=>rfl
 |node _ _ _ _ _=>rw[mkD,zs4]
theorem zgs(ml:Mk k l lt lh)(mr:Mk k r rt rh)(S:Sto):zaq [l,r] S=some (.int (lt.length+1+rt.length:Nat),S):=by simp[zaq,zu,zdy,qz,e2,zn,aC,aN,eV,eK,qb,q9 ml,q9 mr]
theorem ze6(ml:Mk k l lt lh)(mr:Mk k r rt rh)(S:Sto):yx [l,r] S=some (.int (max lh rh+1:Nat),S):=by simp[yx,zu,zcf,qz,e2,zn,aC,aN,eV,eK,qb,eA,zyr,jb ml,jb mr];split<;>omega
theorem za5(ml:Mk k l lt lh)(mr:Mk k r rt rh)(S:Sto):kx [l,r] S=some (.bl (decide (lh<=rh+1/\rh<=lh+1)),S):=by simp[kx,zu,zdz,qz,e2,zn,aC,aN,eV,eK,zad,zfv,F.opI,opIB,eA,z0f,jb ml,jb mr];rw[Bool.eq_iff_iff];simp;split<;>omega
theorem zs5{a b:E}{x y:D}{n m:Nat}(hk:k≠0)(h0:ev[0]? = some (some (yb k)))(ha:a ev S=some (x,S))(hb:b ev S=some (y,S))(hx:Th k n x)(hy:Th k m y)(hn:n+m<=4000):zce ft (eV 0) (aC a (aC b aN)) ev S=some (ad k x y,S):=by
 obtain⟨g,hg,hc⟩:=z0d hx hy hn;have hav:yb k=.fn (fnm k):=by simp[yb,hk]
 unfold zce;rw[e_v h0];simp only[Option.bind_some,hav,hg,a_c ha (a_c hb a_n),hc]
theorem zle{gs:G}{w:E->E}{p q:Nat}{x y:D}{xt yt:List D}(hk:k≠0)(ht:Thing k t)(hn:xt.length+1+yt.length<=2000)(hx:∀z∈xt,Thing k z)(hy:∀z∈yt,Thing k z)(ex:x=.non/\xt=[]\/xt≠[]/\∃xs,x=.tup xs)(ey:y=.non/\yt=[]\/yt≠[]/\∃ys,y=.tup ys)
   (ev0:Ev) (S:Sto) (e0:ev0[0]? = some (some (yb k))) (et:ev0[2]? = some (some t)) (ep:ev0[p]? = some (some x)) (eq:ev0[q]? = some (some y)) (hl:ev0.length=5) (hp:p<4) (hq:q<4) (hx':∀ev:Ev,ev[p]? = some (some x)->w (eV p) ev S=some (zdd k xt,S)) (hy':∀ev:Ev,ev[q]? = some (some y)->w (eV q) ev S=some (zdd k yt,S)) :
   zt (qv 4 (eV 2)) (zt (sIf (bE (e2 yc (eV p) (eK .non))) (qv 4 (zce ft (eV 0) (aC (w (eV p)) (aC (eV 4) aN)))) jz) (zt (sIf (bE (e2 yc (eV q) (eK .non))) (qv 4 (zce ft (eV 0) (aC (eV 4) (aC (w (eV q)) aN)))) jz) (qz (eV 4)))) ev0 S=some (.rt (zdd k (xt++t::yt)),S):=by
 have tt:=ht.th hk;have g4:∀(d:D) (i:Nat),i<4->(ev0.set 4 (some d))[i]? = ev0[i]?:=fun d i hi=>z43 (by omega);have s4:∀(ev:Ev) (d:D),ev.length=5->(ev.set 4 (some d))[4]? = some (some d):=fun ev d h=>z5m (by omega);have ss:∀(d e:D),(ev0.set 4 (some d)).set 4 (some e)=ev0.set 4 (some e):=fun d e=>by simp
 have step2:∀(acc:D) (n:Nat),Th k n acc->n+yt.length<=2000->∀{res:D},(yt=[]->res=acc)->(yt≠[]->res=ad k acc (zdd k yt)) ->
     zt (sIf (bE (e2 yc (eV q) (eK .non))) (qv 4 (zce ft (eV 0) (aC (eV 4) (aC (w (eV q)) aN)))) jz) (qz (eV 4)) (ev0.set 4 (some acc)) S=some (.rt res,S):=by
   intro acc n ha hb res r1 r2;rcases ey with⟨e1,e2'⟩ | ⟨e1,ys,e2'⟩
   · rw[r1 e2'];exact ze (zk (qp (e_2 (e_v (by rw[g4 _ _ hq,eq])) e_k (by rw[e1];rfl)))) (zq (e_v (s4 _ _ hl)))
   · rw[r2 e1];refine ze (zy (qp (e_2 (e_v (by rw[g4 _ _ hq,eq])) e_k (by rw[e2'];rfl))) (zl (zs5 hk (by rw[g4 _ _ (by decide),e0]) (e_v (s4 _ _ hl)) (hy' _ (by rw[g4 _ _ hq,eq])) ha (zke hk e1 hy) (by omega)))) (zq (e_v ?_));rw[ss];exact s4 _ _ hl
 refine ze (zl (e_v et)) ?_;rcases ex with⟨e1,e2'⟩ | ⟨e1,xs,e2'⟩
 · subst e2';refine ze (zk (qp (e_2 (e_v (by rw[g4 _ _ hp,ep])) e_k (by rw[e1];rfl)))) (step2 t 1 tt (by simp at hn;omega) (fun z=>by rw[z,List.nil_append,zcq hk]) fun z=>?_);rw[List.nil_append,show t::yt=[t]++yt from rfl,za3 hk (by simp) z,zcq hk]
 · have t1:=zke hk e1 hx;have e3:zdd k (xt++[t])=ad k (zdd k xt) t:=by rw[za3 hk e1 (by simp),zcq hk]
   refine ze (zy (qp (e_2 (e_v (by rw[g4 _ _ hp,ep])) e_k (by rw[e2'];rfl))) (zl (zs5 hk (by rw[g4 _ _ (by decide),e0]) (hx' _ (by rw[g4 _ _ hp,ep])) (e_v (s4 _ _ hl)) t1 tt (by omega)))) ?_;rw[ss];exact step2 _ _ (t1.ad tt) (by omega) (fun z=>by rw[z,e3]) fun z=>by rw[show xt++t::yt=(xt++[t])++yt by simp,za3 hk (by simp) z,e3]
theorem zks{xs:List D}(m:Mk k d ts h):d=.non/\ts=[]\/ts≠[]/\∃xs,d=.tup xs:=by
 cases m with
 |non=>exact .inl ⟨rfl,rfl⟩
 |node _ _ _ _ _=>exact .inr ⟨by intro z;have:=z6w List.length z;rw[zah]at this;simp at this,_,rfl⟩
theorem zn1(hk:k≠0)(ml:Mk k l lt lh)(mr:Mk k r rt rh)(ht:Thing k t)(hn:lt.length+1+rt.length<=2000)(S:Sto) :
   zbr [yb k,l,t,r] S=some (zdd k (lt++t::rt),S) :=
 ju rfl (zle (w:=fun x=>zn za7 (aC x aN)) (p:=1) (q:=3) (gs:=za7) hk ht hn ml.things mr.things (zks (xs:=[]) ml) (zks (xs:=[]) mr) _ S rfl rfl rfl rfl rfl (by decide) (by decide) (fun ev h=>zi (a_c (e_v h) a_n) (zkc ml S)) (fun ev h=>zi (a_c (e_v h) a_n) (zkc mr S)))
theorem zj4(hk:k≠0)(ml:Mk k l lt lh)(mr:Mk k r rt rh)(ht:Thing k t)(hn:lt.length+1+rt.length<=2000)(S:Sto) :
   zaw [yb k,l,t,r] S=some (zdd k (lt++t::rt).reverse,S):=by
 have rev:(lt++t::rt).reverse=rt.reverse++t::lt.reverse:=by simp
 have no:∀{d:D}{ts:List D},(d=.non/\ts=[]\/ts≠[]/\∃xs,d=.tup xs)->(d=.non/\ts.reverse=[]\/ts.reverse≠[]/\∃xs,d=.tup xs):=fun h=>by simpa using h
 rw[rev];exact ju rfl (zle (w:=fun x=>zn ze9 (aC x aN)) (p:=3) (q:=1) (gs:=za7) hk ht (by simp;omega) (fun z hz=>mr.things z (z72.mp hz)) (fun z hz=>ml.things z (z72.mp hz)) (no (zks (xs:=[]) mr)) (no (zks (xs:=[]) ml)) _ S rfl rfl rfl rfl rfl (by decide) (by decide) (fun ev h=>zi (a_c (e_v h) a_n) (zpo mr S)) (fun ev h=>zi (a_c (e_v h) a_n) (zpo ml S)))
theorem zgn(ml:Mk k l lt lh)(mr:Mk k r rt rh)(ht:Thing k t)(hn:lt.length+1+rt.length<=2000)(S:Sto) :
   y6 [yb k,l,t,r] S=some (.tup [zdd k (lt++t::rt),zdd k (lt++t::rt).reverse],S):=by
 by_cases hk:k=0
 · subst hk;simp[y6,zu,zbx,yb,zt,sIf,qz,bE,e2,eV,eK,zev,zom,xq,eA,aC,aN,zr6,zh1]
 · have o:=zn1 hk ml mr ht hn;have b:=zj4 hk ml mr ht hn;have hav:yb k=.fn (fnm k):=by simp[yb,hk]
   rw[hav]at o b ⊢;simp only[y6,zu,zbx];simp[zt,sIf,qz,jz,bE,e2,eV,eK,zev,zom,xq,eA,aC,aN,zr6,zn,o,b]
def wd(ad:D)(n:Int):MO:=.ins "Wood" [("adding",ad),("nodes_made",.int n)]
theorem na:((Str.ofString "nodes_made")==(Str.ofString "adding"))=false:=by decide +kernel
theorem na':¬ (Str.ofString "adding"=Str.ofString "nodes_made"):=by decide +kernel
theorem na2:((Str.ofString "numbered")==(Str.ofString "adding"))=false:=by decide +kernel
theorem na3:((Str.ofString "numbered")==(Str.ofString "nodes_made"))=false:=by decide +kernel
theorem na4:((Str.ofString "node")==(Str.ofString "adding"))=false:=by decide +kernel
theorem na5:((Str.ofString "node")==(Str.ofString "nodes_made"))=false:=by decide +kernel
theorem na8:((Str.ofString "turned")==(Str.ofString "adding"))=false:=by decide +kernel
theorem na9:((Str.ofString "turned")==(Str.ofString "nodes_made"))=false:=by decide +kernel
theorem zew{i:Nat}{av:D}{n:Int}{xs:List D}(h:S[i]? = some (wd av n))(hl:1+xs.length<=sizeLine) :
   xy [.obj i,.tup xs] S=some (.tup (.int n::xs),S.set i (wd av (n+1))):=by
 have h1:(1:Nat)<=sizeLine:=by decide
 unfold wd at h ⊢;simp[xy,zu,zbz,zt,qv,yj,eV,yo,h,jm,e2,qb,eK,qz,xq,aC,aN,eA,zci,List.lookup,na,na',hl,h1]
def wfs(av:D)(n:Int):List (Str×D):=[("adding",av),("nodes_made",.int n)]
theorem jc{i:Nat}{av:D}{n:Int}(h:S[i]? = some (wd av n)):yo (Str.ofString "Wood") S (.obj i)=some (i,wfs av n):=by simp[yo,h,wd,wfs]
theorem xr(av:D)(n:Int):(wfs av n).lookup (Str.ofString "node")=none:=by simp[wfs,List.lookup,na4,na5]
theorem zel(av:D)(n:Int):(wfs av n).lookup (Str.ofString "turned")=none:=by simp[wfs,List.lookup,na8,na9]
theorem zmn(av:D)(n:Int):(wfs av n).lookup (Str.ofString "adding")=some av:=by simp[wfs,List.lookup]
theorem zem(av:D)(n:Int):(wfs av n).lookup (Str.ofString "numbered")=none:=by simp[wfs,List.lookup,na2,na3]
theorem jf{f:E}(h:f ev S=some (d,S1)):kq f ev S=some (.nx ev,S1):=by simp[kq,h]
theorem zme{N n:Nat}{c:C}{ds:List D}{S S':Sto}{e:Ev}(hl:ds.length=n)(h:c (ds.map some++List.replicate (N-ds.length) none) S=some (.nx e,S')):zu N n c ds S=some (.non,S'):=by unfold zu;rw[z5o hl,h]
theorem z2k{x y:Int}(h:x<=y):zfq (.int x) (.int y)=some (.bl false):=by show some (D.bl (decide (y<x)))=_;rw[z47 (by omega)]
theorem zgw{m:Nat}(h:m<=2000)(S:Sto):ky [.int m] S=some (.non,S):=zme rfl (zk (qp (e_2 (e_v rfl) e_k (z2k (by omega)))))
theorem zus{i:Nat}{n:Int}(h:S[i]? = some (wd (yb k) n))(ml:Mk k l lt lh)(mr:Mk k r rt rh)(ht:Thing k t)(h1:lh<=rh+1)(h2:rh<=lh+1)(hn:lt.length+1+rt.length<=2000) :
   qa [.obj i,l,t,r] S=some (mkD n false l t r (lt.length+1+rt.length:Nat) (max lh rh+1:Nat) (zdd k (lt++t::rt)) (zdd k (lt++t::rt).reverse),S.set i (wd (yb k) (n+1))):=by
 have hz:sizeLine=16777216:=z55;have q:=zgs ml mr S;have b:=za5 ml mr S;have hh:=ze6 ml mr S;have sa:=zgn ml mr ht hn S;rw[z49 (show lh<=rh+1/\rh<=lh+1 from⟨h1,h2⟩)]at b;exact ju rfl (ze (zl (zi (a_c (e_v rfl) (a_c (e_v rfl) a_n)) q)) (ze (jf (zi (a_c (e_v rfl) a_n) (zgw hn S))) (ze (zk (zwf (qp (zi (a_c (e_v rfl) (a_c (e_v rfl) a_n)) b)))) (ze (zl (jo (a_c (e_v rfl) (a_c (zi (a_c (e_v rfl) (a_c (e_v rfl) a_n)) hh) a_n)) (by simp))) (ze (zl (zi (a_c (zb8 (e_v rfl) (jc h) (zmn _ _)) (a_c (e_v rfl) (a_c (e_v rfl) (a_c (e_v rfl) a_n)))) sa)) (zq (qo (e_v rfl) (jc h) (zem _ _) (a_c (e_2 (e_2 (jo (a_c e_k (a_c (e_v rfl) (a_c (e_v rfl) (a_c (e_v rfl) a_n)))) (by simp)) (e_v rfl) (zhw (by simp))) (e_v rfl) (zhw (by simp))) a_n) (zew h (by simp;omega)))))))))
theorem zut{n:Int}(ml:Mk k l lt lh)(mr:Mk k r rt rh)(ht:Thing k t)(h1:lh<=rh+1)(h2:rh<=lh+1) :
   Mk k (mkD n false l t r (lt.length+1+rt.length:Nat) (max lh rh+1:Nat) (zdd k (lt++t::rt)) (zdd k (lt++t::rt).reverse)) (lt++t::rt) (max lh rh+1):=by
 have:=Mk.node (num:=n) (a:=false) ml mr ht h1 h2;simpa [ord] using this
theorem zlg{i:Nat}:ji [.obj i,.non] S=some (.non,S):=rfl
theorem zp0{i:Nat}{n num:Int}{av:D}{a:Bool}{sz ht:Int}{to ba:D}(h:S[i]? = some (wd av n)) :
   ji [.obj i,mkD num a l t r sz ht to ba] S=some (mkD n (!a) l t r sz ht ba to,S.set i (wd av (n+1))):=by
 have hz:sizeLine=16777216:=z55;unfold mkD;exact ju rfl (ze (zk (qp (e_2 (e_v rfl) e_k rfl))) (ze (zl (jo (a_c (qs (e_v rfl) e_k rfl) (a_c (qs (e_v rfl) e_k rfl) (a_c (qs (e_v rfl) e_k rfl) a_n))) (by simp))) (zq (qo (e_v rfl) (jc h) (zem _ _) (a_c (e_2 (e_2 (jo (a_c (z2u (qs (e_v rfl) e_k rfl)) a_n) (by simp)) (e_v rfl) (zhw (by simp))) (jo (a_c (zi (a_c (e_v rfl) a_n) (zsb _ _ _ _ _ _ _ _ _ _)) (a_c (zi (a_c (e_v rfl) a_n) (zk0 _ _ _ _ _ _ _ _ _ _)) (a_c (zi (a_c (e_v rfl) a_n) (zs4 _ _ _ _ _ _ _ _ _ _)) (a_c (zi (a_c (e_v rfl) a_n) (zmu _ _ _ _ _ _ _ _ _ _)) a_n)))) (by simp)) (zhw (by simp))) a_n) (zew h (by simp;omega))))))
theorem zmq{num n:Int}{a:Bool}{sz ht:Int}{to ba:D}(m:Mk k (mkD num a l t r sz ht to ba) ts h):Mk k (mkD n (!a) l t r sz ht ba to) ts.reverse h:=by
 generalize hd:mkD num a l t r sz ht to ba=d at m;cases m with
 |non=>cases hd
 | @node num' a' l' t' r' lt rt lh rh ml mr ht' h1 h2=>
   unfold mkD at hd;injection hd with hd;simp only[z6v,D.int.injEq,D.bl.injEq,and_true]at hd;obtain⟨rfl,rfl,rfl,rfl,rfl,rfl,rfl,rfl,rfl⟩:=hd;have:=Mk.node (num:=n) (a:=!a) ml mr ht' h1 h2;have e:ord (!a) (lt++t::rt)=(ord a (lt++t::rt)).reverse:=by cases a<;>simp[ord]
   rw[e,List.reverse_reverse]at this;exact this
theorem zmm(S:Sto)(av:D):jt [.obj S.length,av] (S++[.ins (Str.ofString "Wood") []])=some (.non,S++[wd av 0]):=by
 have q1:(S++[MO.ins (Str.ofString "Wood") []])[S.length]? = some (MO.ins (Str.ofString "Wood") []):=by simp
 have q2:∀a b:MO,(S++[a]).set S.length b=S++[b]:=by intro a b;simp
 have q3:∀a:MO,(S++[a])[S.length]? = some a:=by intro a;simp
 simp[jt,zu,zan,zt,jm,eV,eK,yo,zci,na',wd,q1,q2,q3]
theorem zs9:zbe (Str.ofString "Wood") (zpx 1 jt) aN ev S=some (.obj S.length,S++[wd .non 0]):=by have:=zmm S .non;simp[zbe,aN,zpx,this]
inductive Tnd (n:Int):D->D->Int->Prop where
 |non:Tnd n .non .non n
 |node {num:Int}{a:Bool}{l t r:D}{sz ht:Int}{to ba:D}:Tnd n (mkD num a l t r sz ht to ba) (mkD n (!a) l t r sz ht ba to) (n+1)
structure At (S S':Sto) (i:Nat) (av:D) (n n':Int):Prop where
 at_:S'[i]? = some (wd av n')
 le:n<=n'
 ne:∀j,j≠i->S'[j]? = S[j]?
 len:S'.length=S.length
theorem At.refl{i:Nat}{av:D}{n:Int}(h:S[i]? = some (wd av n)):At S S i av n n:=⟨h,Int.le_refl _,fun _ _=>rfl,rfl⟩
theorem At.set{i:Nat}{av:D}{n n':Int}(h:S[i]? = some (wd av n))(hn:n<=n'):At S (S.set i (wd av n')) i av n n':=⟨kn h,hn,fun j hj=>zxb (z5x hj) _,by simp⟩
theorem At.trans {S2:Sto}{i:Nat}{av:D}{n n' n'':Int} (a:At S S1 i av n n') (b:At S1 S2 i av n' n''):At S S2 i av n n'':=⟨b.at_,Int.le_trans a.le b.le,fun j hj=>(b.ne j hj).trans (a.ne j hj),b.len.trans a.len⟩
theorem zde{i:Nat}{av:D}{n:Int}(m:Mk k d ts h)(hw:S[i]? = some (wd av n)):∃d' n' S',ji [.obj i,d] S=some (d',S')/\Mk k d' ts.reverse h/\Tnd n d d' n'/\At S S' i av n n':=by
 have m0:=m;cases m with
 |non=>exact⟨.non,n,S,zlg,.non,.non,At.refl hw⟩
 |node ml mr ht h1 h2=>exact⟨_,_,_,zp0 hw,zmq m0,.node,At.set hw (by omega)⟩
theorem zqv{i:Nat}{n num:Int}{av:D}{a:Bool}{sz ht:Int}{to ba:D}(m:Mk k (mkD num a l t r sz ht to ba) ts h)(hw:S[i]? = some (wd av n)) :
   ∃x y n' S' xt yt xh yh,kl [.obj i,mkD num a l t r sz ht to ba] S=some (.tup [x,t,y],S')/\At S S' i av n n'/\Mk k x xt xh/\Mk k y yt yh/\ts=xt++t::yt/\h=max xh yh+1/\xh<=yh+1/\yh<=xh+1/\Thing k t /\
     ((a=false/\x=l/\y=r/\n'=n/\S'=S)\/(a=true/\∃n1,Tnd n r x n1/\Tnd n1 l y n')):=by
 have hs:(3:Nat)<=16777216:=by decide
 generalize hd:mkD num a l t r sz ht to ba=d at m;cases m with
 |non=>cases hd
 | @node num' a' l' t' r' lt rt lh rh ml mr ht' h1 h2=>
   unfold mkD at hd;injection hd with hd;simp only[z6v,D.int.injEq,D.bl.injEq,and_true]at hd;obtain⟨rfl,rfl,rfl,rfl,rfl,rfl,rfl,rfl,rfl⟩:=hd;generalize ((lt.length+1+rt.length:Nat):Int)=sz;generalize ((max lh rh+1:Nat):Int)=hh;generalize zdd k (ord a (lt++t::rt))=to;generalize zdd k (ord a (lt++t::rt)).reverse=ba;cases a
   · refine⟨l,r,n,S,lt,rt,lh,rh,?_,At.refl hw,ml,mr,rfl,rfl,h1,h2,ht',.inl ⟨rfl,rfl,rfl,rfl,rfl⟩⟩;rfl
   · obtain⟨x,n1,S1,c1,mx,t1,w1⟩:=zde mr hw;obtain⟨y,n2,S2,c2,my,t2,w2⟩:=zde ml w1.at_;refine⟨x,y,n2,S2,rt.reverse,lt.reverse,rh,lh,?_,w1.trans w2,mx,my,by simp[ord],by rw[Nat.max_comm],h2,h1,ht',.inr ⟨rfl,n1,t1,t2⟩⟩;have f0:zmg (bE (e2s z8 (eV 1) (eK (.int 1)))) [some (.obj i),some (.tup [.int num,.bl true,l,t,r,.int sz,.int hh,to,ba]),none,none] S=some (false,S):=rfl;have f1:qv 2 (zw "Wood" "turned" ji (eV 0) (aC (e2s z8 (eV 1) (eK (.int 4))) aN)) [some (.obj i),some (.tup [.int num,.bl true,l,t,r,.int sz,.int hh,to,ba]),none,none] S=some (.nx [some (.obj i),some (.tup [.int num,.bl true,l,t,r,.int sz,.int hh,to,ba]),some x,none],S1) :=
       zl (qo (e_v rfl) (jc hw) (zel _ _) (a_c (qs (e_v rfl) e_k rfl) a_n) c1)
     have f2:qv 3 (zw "Wood" "turned" ji (eV 0) (aC (e2s z8 (eV 1) (eK (.int 2))) aN)) [some (.obj i),some (.tup [.int num,.bl true,l,t,r,.int sz,.int hh,to,ba]),some x,none] S1=some (.nx [some (.obj i),some (.tup [.int num,.bl true,l,t,r,.int sz,.int hh,to,ba]),some x,some y],S2) :=
       zl (qo (e_v rfl) (jc w1.at_) (zel _ _) (a_c (qs (e_v rfl) e_k rfl) a_n) c2)
     have f3:qz (xq (aC (eV 2) (aC (e2s z8 (eV 1) (eK (.int 3))) (aC (eV 3) aN)))) [some (.obj i),some (.tup [.int num,.bl true,l,t,r,.int sz,.int hh,to,ba]),some x,some y] S2=some (.rt (.tup [x,t,y]),S2):=by unfold qz;rw[jo (a_c (e_v rfl) (a_c (qs (e_v rfl) e_k rfl) (a_c (e_v rfl) a_n))) (by simp)];rfl
     simp only[kl,zu,zph,mkD];simp only[List.length_cons,List.length_nil,Nat.reduceAdd,z64,z5v,z8y,Nat.reduceSub,List.replicate,List.cons_append,List.nil_append];simp only[zt,sIf,f0,Option.bind_some,z59,z69,jz,f1,f2,f3]
end Pg
namespace Pg
open PySem L2 F Mt
variable {k:Nat} [Kd k] {d l r t x y:D}{ts lt rt:List D}{h lh rh i:Nat}{n:Int}{S S0 S1:Sto}{ev e:Ev}{P Q:D->Prop}{a b new:List D}
def num:D->Int
 | .tup (.int n::_)=>n
 |_=>0
inductive All (P:D->Prop):D->Prop where
 |non:All P .non
 |node {m:Int}{a:Bool}{l t r:D}{sz ht:Int}{to ba:D}:P (mkD m a l t r sz ht to ba)->All P l->All P r->All P (mkD m a l t r sz ht to ba)
theorem All.inv{m:Int}{a:Bool}{sz ht:Int}{to ba:D}(h:All P (mkD m a l t r sz ht to ba)):All P l/\All P r:=by
 generalize e:mkD m a l t r sz ht to ba=d at h;cases h with
 |non=>cases e
 | node _ b c=>
   unfold mkD at e;injection e with e;simp only[z6v,and_true]at e;obtain⟨_,_,rfl,_,rfl,_⟩:=e;exact⟨b,c⟩
theorem All.mono(h:All P d)(f:∀v,P v->Q v):All Q d:=by
 induction h with
 |non=>exact .non
 |node a _ _ b c=>exact .node (f _ a) b c
def Ac(P:D->Prop)(n:Int)(new:List D)(v:D):Prop:=P v\/∃j:Nat,new[j]? = some v/\num v=n+j
theorem Ac.app{v:D}(h:Ac P n a v):Ac P n (a++b) v:=h.imp id fun⟨j,h1,h2⟩=>⟨j,by rw[z5h (z4y.mp h1).1,h1],h2⟩
theorem Ac.two{v:D}(h:Ac (Ac P n a) (n+a.length) b v):Ac P n (a++b) v:=by
 rcases h with h | ⟨j,h1,h2⟩
 · exact h.app
 · exact .inr ⟨a.length+j,by rw[z5j (z6a _ _),z7n,h1],by omega⟩
theorem All.old(h:All P d):All (Ac P n a) d:=h.mono fun _=>.inl
theorem All.app(h:All (Ac P n a) d):All (Ac P n (a++b)) d:=h.mono fun _=>Ac.app
theorem All.two(h:All (Ac (Ac P n a) (n+a.length) b) d):All (Ac P n (a++b)) d:=h.mono fun _=>Ac.two
abbrev Wt(k i:Nat)(S:Sto)(n:Int)(new:List D)(S':Sto):Prop:=At S S' i (yb k) n (n+new.length)
theorem Wt.nil(hw:S[i]? = some (wd (yb k) n)):Wt k i S n [] S:=by have:=At.refl hw;unfold Wt;rw[show n+(([]:List D).length:Int)=n from z81 n];exact this
theorem Wt.two(w:Wt k i S0 n a S)(w':Wt k i S (n+a.length) b S1):Wt k i S0 n (a++b) S1:=by
 have:=At.trans w w';have e:n+(a.length:Int)+b.length=n+((a++b).length:Nat):=by rw[z41];omega
 unfold Wt;rw[<-e];exact this
structure Top (a b h:Nat):Prop where
 l:a<h
 r:b<h
 e:h=a+1\/h=b+1
theorem zjd(a b:Nat):Top a b (max a b+1):=⟨by omega,by omega,by omega⟩
structure Res (k i:Nat) (S:Sto) (n:Int) (P:D->Prop) (ts:List D) (d:D) (h:Nat) (new:List D) (S':Sto):Prop where
 mm:Mk k d ts h
 wt:Wt k i S n new S'
 all:All (Ac P n new) d
theorem Res.after(w:Wt k i S0 n a S)(r:Res k i S (n+a.length) (Ac P n a) ts d h new S1):Res k i S0 n P ts d h (a++new) S1:=⟨r.mm,w.two r.wt,r.all.two⟩
theorem y4(hw:S[i]? = some (wd (yb k) n))(ml:Mk k l lt lh)(mr:Mk k r rt rh)(ht:Thing k t)(h1:lh<=rh+1)(h2:rh<=lh+1)(hn:lt.length+1+rt.length<=2000)(al:All P l)(ar:All P r) :
   ∃d S' h,qa [.obj i,l,t,r] S=some (d,S')/\Res k i S n P (lt++t::rt) d h [d] S'/\Top lh rh h :=
 ⟨_,_,_,zus hw ml mr ht h1 h2 hn,⟨zut ml mr ht h1 h2,At.set hw (by omega),.node (.inr ⟨0,rfl,(z81 n).symm⟩) al.old ar.old⟩,zjd _ _⟩
theorem Tnd.ac{d':D}{n1:Int}(t:Tnd n d d' n1)(a:All P d):∃new:List D,n1=n+new.length/\All (Ac P n new) d'/\new.length<=1:=by
 cases t with
 |non=>exact⟨[],(z81 n).symm,.non,by simp⟩
 |node=>exact⟨[_],rfl,.node (.inr ⟨0,rfl,(z81 n).symm⟩) a.inv.1.old a.inv.2.old,by simp⟩
theorem zp1(m:Mk k d ts h)(hw:S[i]? = some (wd (yb k) n))(al:All P d):∃d' new S',ji [.obj i,d] S=some (d',S')/\Res k i S n P ts.reverse d' h new S'/\new.length<=1:=by obtain⟨d',n',S',c,m',t,w⟩:=zde m hw;obtain⟨new,rfl,al',hl⟩:=t.ac al;exact⟨d',new,S',c,⟨m',w,al'⟩,hl⟩
structure Pts (k i:Nat) (S:Sto) (n:Int) (P:D->Prop) (ts:List D) (h:Nat) (x t y:D) (xt yt:List D) (xh yh:Nat) (new:List D) (S':Sto):Prop where
 wt:Wt k i S n new S'
 mx:Mk k x xt xh
 my:Mk k y yt yh
 ht:Thing k t
 hts:ts=xt++t::yt
 hh:Top xh yh h
 h1:xh<=yh+1
 h2:yh<=xh+1
 ax:All (Ac P n new) x
 ay:All (Ac P n new) y
 few:new.length<=2
theorem zag(m:Mk k d ts h)(hh:0<h)(hw:S[i]? = some (wd (yb k) n))(al:All P d) :
   ∃x t y xt yt xh yh new S',kl [.obj i,d] S=some (.tup [x,t,y],S')/\Pts k i S n P ts h x t y xt yt xh yh new S':=by
 have m0:=m;cases m with
 |non=>omega
 | @node num a l t r lt rt lh rh ml mr ht h1 h2=>
   obtain⟨x,y,n',S',xt,yt,xh,yh,c,w,mx,my,e1,e2,q1,q2,q3,q⟩:=zqv m0 hw;rcases q with⟨_,rfl,rfl,rfl,rfl⟩ | ⟨_,n1,t1,t2⟩
   · exact⟨x,t,y,xt,yt,xh,yh,[],_,c,⟨Wt.nil hw,mx,my,q3,e1,e2▸zjd _ _,q1,q2,al.inv.1.old,al.inv.2.old,by simp⟩⟩
   · obtain⟨a1,rfl,b1,c1⟩:=t1.ac al.inv.2;obtain⟨a2,rfl,b2,c2⟩:=t2.ac (al.inv.1.old (n:=n) (a:=a1));refine⟨x,t,y,xt,yt,xh,yh,a1++a2,S',c,⟨?_,mx,my,q3,e1,e2▸zjd _ _,q1,q2,b1.app,b2.two,by rw[z41];omega⟩⟩;have e:n+(a1.length:Int)+a2.length=n+((a1++a2).length:Nat):=by rw[z41];omega
     unfold Wt;rw[<-e];exact w
theorem z0u(x y:Nat):zi9 (.int x) (.int y)=some (.bl (decide (y<=x))):=z6w (fun b=>some (D.bl b)) (z6h.mpr Int.ofNat_le)
theorem zwc(x y:Nat):zfq (.int x) (.int y)=some (.bl (decide (y<x))):=z6w (fun b=>some (D.bl b)) (z6h.mpr Int.ofNat_lt)
theorem z0s(a b c:List D):(a++t::b).length+1+c.length=a.length+1+(b++x::c).length:=by simp only[z41,List.length_cons];omega
theorem z0y(a b c:List D):a++t::(b++x::c)=a++t::b++x::c:=by simp
theorem zyu{a b:List D}{m:Nat}(h:(a++t::b).length+1+m<=2000):b.length+1+m<=2000:=by simp only[z41,List.length_cons]at h;omega
theorem zyt{a b:List D}{m:Nat}(h:m+1+(a++t::b).length<=2000):m+1+a.length<=2000:=by simp only[z41,List.length_cons]at h;omega
theorem z3w{a:List D}(h:a.length<=2):(a++[x]++[y]).length<=7:=by simp only[z41,List.length_cons,List.length_nil];omega
theorem z3v{a b:List D}(h:a.length<=2)(h':b.length<=2):(a++b++[x]++[y]++[t]).length<=7:=by simp only[z41,List.length_cons,List.length_nil];omega
theorem z3u{a b c:List D}{f:Nat}(h:a.length<=2)(h':b.length<=9*f+1)(h3:c.length<=7):(a++b++c).length<=9*(f+1)+1:=by simp only[z41];omega
theorem z19{a b c:List D}{m:Nat}(h:(a++t::(b++x::c)).length+1+m<=2000):a.length+1+b.length<=2000:=by simp only[z41,List.length_cons]at h;omega
theorem z18{a b c:List D}{m:Nat}(h:(a++t::(b++x::c)).length+1+m<=2000):c.length+1+m<=2000:=by simp only[z41,List.length_cons]at h;omega
theorem z17{a b c e:List D}(h:(a++t::(b++x::c)).length+1+e.length<=2000):(a++t::b).length+1+(c++y::e).length<=2000:=by simp only[z41,List.length_cons]at h ⊢;omega
theorem z16{a b c:List D}{m:Nat}(h:m+1+(a++t::b++x::c).length<=2000):m+1+a.length<=2000:=by simp only[z41,List.length_cons]at h;omega
theorem z15{a b c:List D}{m:Nat}(h:m+1+(a++t::b++x::c).length<=2000):b.length+1+c.length<=2000:=by simp only[z41,List.length_cons]at h;omega
theorem z14{a b c e:List D}(h:e.length+1+(a++t::b++x::c).length<=2000):(e++y::a).length+1+(b++x::c).length<=2000:=by simp only[z41,List.length_cons]at h ⊢;omega
theorem z4s(a b c e:List D):a++t::b++x::(c++y::e)=a++t::(b++x::c)++y::e:=by simp
theorem z4r(a b c e:List D):a++t::b++x::(c++y::e)=a++t::(b++x::c++y::e):=by simp
theorem up1{xh yh rh lh:Nat}(hh:lh=rh+2)(p:Top xh yh lh)(q1:xh<=yh+1)(q2:yh<=xh+1)(hg:yh<=xh):yh<=rh+1/\rh<=yh+1/\∀g,Top yh rh g->(xh<=g+1/\g<=xh+1/\∀z,Top xh g z->lh<=z/\z<=lh+1):=by obtain⟨p1,p2,p3⟩:=p;refine⟨by omega,by omega,fun g ⟨g1,g2,g3⟩=>⟨by omega,by omega,fun z ⟨z1,z2,z3⟩=>⟨by omega,by omega⟩⟩⟩
theorem up2{xh yh rh lh xh' yh':Nat}(hh:lh=rh+2)(p:Top xh yh lh)(q1:xh<=yh+1)(q2:yh<=xh+1)(hg:¬ yh<=xh)(p':Top xh' yh' yh)(q3:xh'<=yh'+1)(q4:yh'<=xh'+1) :
   (xh<=xh'+1/\xh'<=xh+1)/\(yh'<=rh+1/\rh<=yh'+1)/\∀g g',Top xh xh' g->Top yh' rh g'->(g<=g'+1/\g'<=g+1/\∀z,Top g g' z->lh<=z/\z<=lh+1):=by
 obtain⟨p1,p2,p3⟩:=p;obtain⟨p4,p5,p6⟩:=p';have e1:xh=rh:=by omega
 have e2:yh=rh+1:=by omega
 subst e1 e2;refine⟨⟨by omega,by omega⟩,⟨by omega,by omega⟩,fun g g' ⟨g1,g2,g3⟩ ⟨g4,g5,g6⟩=>?_⟩;have e3:g=xh+1:=by omega
 have e4:g'=xh+1:=by omega
 subst e3 e4;exact⟨by omega,by omega,fun z ⟨z1,z2,z3⟩=>⟨by omega,by omega⟩⟩
theorem Top.sym{a b h:Nat}(p:Top a b h):Top b a h:=⟨p.r,p.l,p.e.symm⟩
theorem zfw(hw:S[i]? = some (wd (yb k) n))(ml:Mk k l lt lh)(mr:Mk k r rt rh)(ht:Thing k t)(hh:lh=rh+2)(hn:lt.length+1+rt.length<=2000)(al:All P l)(ar:All P r) :
   ∃d h new S',za9 [.obj i,l,t,r] S=some (d,S')/\Res k i S n P (lt++t::rt) d h new S'/\(lh<=h/\h<=lh+1)/\new.length<=7:=by
 obtain⟨x,u,y,xt,yt,xh,yh,w1,S1,c1,p⟩:=zag ml (by omega) hw al;have e1:=p.hts;subst e1;have e2:=p.hh;have f1:=p.few;by_cases hg:yh<=xh
 · obtain⟨k1,k2,k3⟩:=up1 hh p.hh p.h1 p.h2 hg;have hge:zi9 (.int xh) (.int yh)=some (.bl true):=by rw[z0u,z49 hg]
   clear hg;obtain⟨d1,S2,g1,c2,r2,t2⟩:=y4 p.wt.at_ p.my mr ht k1 k2 (zyu hn) p.ay ar.old;have r2:=r2.after p.wt;obtain⟨k4,k5,k6⟩:=k3 _ t2;obtain⟨d2,S3,g2,c3,r3,t3⟩:=y4 r2.wt.at_ p.mx r2.mm p.ht k4 k5 (by rw[<-z0s];exact hn) p.ax.app r2.all;have r3:=r3.after r2.wt;exact⟨d2,_,_,S3,ju rfl (ze (zl (zi (a_c (e_v rfl) (a_c (e_v rfl) a_n)) c1)) (qu (zy (qp (e_2 (zi (a_c (qs (e_v rfl) e_k rfl) a_n) (jb p.mx S1)) (zi (a_c (qs (e_v rfl) e_k rfl) a_n) (jb p.my S1)) hge)) (zq (qo (e_v rfl) (jc p.wt.at_) (xr _ _) (a_c (qs (e_v rfl) e_k rfl) (a_c (qs (e_v rfl) e_k rfl) (a_c (qo (e_v rfl) (jc p.wt.at_) (xr _ _) (a_c (qs (e_v rfl) e_k rfl) (a_c (e_v rfl) (a_c (e_v rfl) a_n))) c2) a_n))) c3))))),z0y xt yt rt▸r3,k6 _ t3,z3w f1⟩
 · have hge:zi9 (.int xh) (.int yh)=some (.bl false):=by rw[z0u,z47 hg]
   obtain⟨x',v,y',xt',yt',xh',yh',w2,S2,c2,p2⟩:=zag p.my (by omega) p.wt.at_ p.ay;have e3:=p2.hts;subst e3;obtain⟨⟨k1,k2⟩,⟨k3,k4⟩,k5⟩:=up2 hh p.hh p.h1 p.h2 hg p2.hh p2.h1 p2.h2;have f2:=p2.few;clear hg e2;have wt2:=p.wt.two p2.wt;obtain⟨d1,S3,g1,c3,r3,t3⟩:=y4 wt2.at_ p.mx p2.mx p.ht k1 k2 (z19 hn) p.ax.app p2.ax.two;have r3:=r3.after wt2;obtain⟨d2,S4,g2,c4,r4,t4⟩:=y4 r3.wt.at_ p2.my mr ht k3 k4 (z18 hn) p2.ay.two.app ar.old;have r4:=r4.after r3.wt;obtain⟨k6,k7,k8⟩:=k5 _ _ t3 t4;obtain⟨d3,S5,g3,c5,r5,t5⟩:=y4 r4.wt.at_ r3.mm r4.mm p2.ht k6 k7 (z17 hn) r3.all.app r4.all;have r5:=r5.after r4.wt;exact⟨d3,_,_,S5,ju rfl (ze (zl (zi (a_c (e_v rfl) (a_c (e_v rfl) a_n)) c1)) (ze (zk (qp (e_2 (zi (a_c (qs (e_v rfl) e_k rfl) a_n) (jb p.mx S1)) (zi (a_c (qs (e_v rfl) e_k rfl) a_n) (jb p.my S1)) hge))) (ze (zl (zi (a_c (e_v rfl) (a_c (qs (e_v rfl) e_k rfl) a_n)) c2)) (ze (zl (qo (e_v rfl) (jc wt2.at_) (xr _ _) (a_c (qs (e_v rfl) e_k rfl) (a_c (qs (e_v rfl) e_k rfl) (a_c (qs (e_v rfl) e_k rfl) a_n))) c3)) (ze (zl (qo (e_v rfl) (jc r3.wt.at_) (xr _ _) (a_c (qs (e_v rfl) e_k rfl) (a_c (e_v rfl) (a_c (e_v rfl) a_n))) c4)) (zq (qo (e_v rfl) (jc r4.wt.at_) (xr _ _) (a_c (e_v rfl) (a_c (qs (e_v rfl) e_k rfl) (a_c (e_v rfl) a_n))) c5))))))),z4s xt xt' yt' rt▸r5,k8 _ t5,z3v f1 f2⟩
theorem ze0(hw:S[i]? = some (wd (yb k) n))(ml:Mk k l lt lh)(mr:Mk k r rt rh)(ht:Thing k t)(hh:rh=lh+2)(hn:lt.length+1+rt.length<=2000)(al:All P l)(ar:All P r) :
   ∃d h new S',zav [.obj i,l,t,r] S=some (d,S')/\Res k i S n P (lt++t::rt) d h new S'/\(rh<=h/\h<=rh+1)/\new.length<=7:=by
 obtain⟨x,u,y,xt,yt,xh,yh,w1,S1,c1,p⟩:=zag mr (by omega) hw ar;have e1:=p.hts;subst e1;have e2:=p.hh;have f1:=p.few;by_cases hg:xh<=yh
 · obtain⟨k1,k2,k3⟩:=up1 hh p.hh.sym p.h2 p.h1 hg;have hge:zi9 (.int yh) (.int xh)=some (.bl true):=by rw[z0u,z49 hg]
   clear hg;obtain⟨d1,S2,g1,c2,r2,t2⟩:=y4 p.wt.at_ ml p.mx ht k2 k1 (zyt hn) al.old p.ax;have r2:=r2.after p.wt;obtain⟨k4,k5,k6⟩:=k3 _ t2.sym;obtain⟨d2,S3,g2,c3,r3,t3⟩:=y4 r2.wt.at_ r2.mm p.my p.ht k5 k4 (by rw[z0s];exact hn) r2.all p.ay.app;have r3:=r3.after r2.wt;exact⟨d2,_,_,S3,ju rfl (ze (zl (zi (a_c (e_v rfl) (a_c (e_v rfl) a_n)) c1)) (qu (zy (qp (e_2 (zi (a_c (qs (e_v rfl) e_k rfl) a_n) (jb p.my S1)) (zi (a_c (qs (e_v rfl) e_k rfl) a_n) (jb p.mx S1)) hge)) (zq (qo (e_v rfl) (jc p.wt.at_) (xr _ _) (a_c (qo (e_v rfl) (jc p.wt.at_) (xr _ _) (a_c (e_v rfl) (a_c (e_v rfl) (a_c (qs (e_v rfl) e_k rfl) a_n))) c2) (a_c (qs (e_v rfl) e_k rfl) (a_c (qs (e_v rfl) e_k rfl) a_n))) c3))))),(z0y lt xt yt).symm▸r3,k6 _ t3.sym,z3w f1⟩
 · have hge:zi9 (.int yh) (.int xh)=some (.bl false):=by rw[z0u,z47 hg]
   obtain⟨x',v,y',xt',yt',xh',yh',w2,S2,c2,p2⟩:=zag p.mx (by omega) p.wt.at_ p.ax;have e3:=p2.hts;subst e3;obtain⟨⟨k1,k2⟩,⟨k3,k4⟩,k5⟩:=up2 hh p.hh.sym p.h2 p.h1 hg p2.hh.sym p2.h2 p2.h1;have f2:=p2.few;clear hg e2;have wt2:=p.wt.two p2.wt;obtain⟨d1,S3,g1,c3,r3,t3⟩:=y4 wt2.at_ ml p2.mx ht k4 k3 (z16 hn) al.old p2.ax.two;have r3:=r3.after wt2;obtain⟨d2,S4,g2,c4,r4,t4⟩:=y4 r3.wt.at_ p2.my p.my p.ht k2 k1 (z15 hn) p2.ay.two.app p.ay.app.app;have r4:=r4.after r3.wt;obtain⟨k6,k7,k8⟩:=k5 _ _ t4.sym t3.sym;obtain⟨d3,S5,g3,c5,r5,t5⟩:=y4 r4.wt.at_ r3.mm r4.mm p2.ht k7 k6 (z14 hn) r3.all.app r4.all;have r5:=r5.after r4.wt;exact⟨d3,_,_,S5,ju rfl (ze (zl (zi (a_c (e_v rfl) (a_c (e_v rfl) a_n)) c1)) (ze (zk (qp (e_2 (zi (a_c (qs (e_v rfl) e_k rfl) a_n) (jb p.my S1)) (zi (a_c (qs (e_v rfl) e_k rfl) a_n) (jb p.mx S1)) hge))) (ze (zl (zi (a_c (e_v rfl) (a_c (qs (e_v rfl) e_k rfl) a_n)) c2)) (ze (zl (qo (e_v rfl) (jc wt2.at_) (xr _ _) (a_c (e_v rfl) (a_c (e_v rfl) (a_c (qs (e_v rfl) e_k rfl) a_n))) c3)) (ze (zl (qo (e_v rfl) (jc r3.wt.at_) (xr _ _) (a_c (qs (e_v rfl) e_k rfl) (a_c (qs (e_v rfl) e_k rfl) (a_c (qs (e_v rfl) e_k rfl) a_n))) c4)) (zq (qo (e_v rfl) (jc r4.wt.at_) (xr _ _) (a_c (e_v rfl) (a_c (qs (e_v rfl) e_k rfl) (a_c (e_v rfl) a_n))) c5))))))),z4r lt xt' yt' yt▸r5,k8 _ t5.sym,z3v f1 f2⟩
structure Hi (a b h:Nat):Prop where
 l:a<=h
 r:b<=h
 m:∀z,a<=z->b<=z->h<=z+1
theorem Top.hi{a b h:Nat}(p:Top a b h):Hi a b h:=⟨z6t p.l,z6t p.r,fun z h1 h2=>by rcases p.e with rfl | rfl<;>omega⟩
theorem ku(hw:S[i]? = some (wd (yb k) n))(ml:Mk k l lt lh)(mr:Mk k r rt rh)(ht:Thing k t)(h1:lh<=rh+2)(h2:rh<=lh+2)(hn:lt.length+1+rt.length<=2000)(al:All P l)(ar:All P r) :
   ∃d h new S',xn [.obj i,l,t,r] S=some (d,S')/\Res k i S n P (lt++t::rt) d h new S'/\Hi lh rh h/\(lh<=rh+1->rh<=lh+1->Top lh rh h)/\new.length<=7:=by
 have bl:=za5 ml mr S;by_cases hb:lh<=rh+1/\rh<=lh+1
 · rw[z49 hb]at bl;obtain⟨d1,S1,g1,c1,r1,t1⟩:=y4 hw ml mr ht hb.1 hb.2 hn al ar;exact⟨d1,_,_,S1,ju rfl (qu (zy (qp (zi (a_c (e_v rfl) (a_c (e_v rfl) a_n)) bl)) (zq (qo (e_v rfl) (jc hw) (xr _ _) (a_c (e_v rfl) (a_c (e_v rfl) (a_c (e_v rfl) a_n))) c1)))),r1,t1.hi,fun _ _=>t1,z4z rfl⟩
 · rw[z47 hb]at bl;by_cases hg:rh<lh
   · have e:lh=rh+2:=by omega
     obtain⟨d1,h,w,S1,c1,r1,⟨q1,q2⟩,q3⟩:=zfw hw ml mr ht e hn al ar;exact⟨d1,h,w,S1,ju rfl (ze (zk (qp (zi (a_c (e_v rfl) (a_c (e_v rfl) a_n)) bl))) (qu (zy (qp (e_2 (zi (a_c (e_v rfl) a_n) (jb ml S)) (zi (a_c (e_v rfl) a_n) (jb mr S)) (by rw[zwc,z49 hg]))) (zq (zi (a_c (e_v rfl) (a_c (e_v rfl) (a_c (e_v rfl) (a_c (e_v rfl) a_n)))) c1))))),r1,⟨q1,z5p (z6t hg) q1,fun z z1 z2=>z5p q2 (z8s z1)⟩,fun u v=>absurd ⟨u,v⟩ hb,q3⟩
   · have e:rh=lh+2:=by omega
     obtain⟨d1,h,w,S1,c1,r1,⟨q1,q2⟩,q3⟩:=ze0 hw ml mr ht e hn al ar;exact⟨d1,h,w,S1,ju rfl (ze (zk (qp (zi (a_c (e_v rfl) (a_c (e_v rfl) a_n)) bl))) (ze (zk (qp (e_2 (zi (a_c (e_v rfl) a_n) (jb ml S)) (zi (a_c (e_v rfl) a_n) (jb mr S)) (by rw[zwc,z47 hg])))) (zq (zi (a_c (e_v rfl) (a_c (e_v rfl) (a_c (e_v rfl) (a_c (e_v rfl) a_n)))) c1)))),r1,⟨z5p (z82.mp hg) q1,q1,fun z z1 z2=>z5p q2 (z8s z2)⟩,fun u v=>absurd ⟨u,v⟩ hb,q3⟩
theorem dn1{a b h z c:Nat}(p:Top a b h)(q1:a<=b+1)(q2:b<=a+1)(hz:z+2<=h)(j:Hi b z c):a<=c+2/\c<=a+2:=by obtain⟨p1,p2,p3⟩:=p;have:=j.l;have:=j.m (b) (z45 _) (by omega);omega
theorem dn2{a b h z c g:Nat}(p:Top a b h)(q1:a<=b+1)(q2:b<=a+1)(hz:z+2<=h)(j:Hi b z c)(q:Hi a c g)(w:a<=c+1->c<=a+1->Top a c g):Hi h z g:=by
 obtain⟨p1,p2,p3⟩:=p;have c1:=j.l;have c2:=j.m b (z45 _) (by omega);have g1:=q.l;have g2:=q.r;have:h<=g/\g<=h+1:=by
   by_cases hb:a<=c+1/\c<=a+1
   · obtain⟨w1,w2,w3⟩:=w hb.1 hb.2;omega
   · have g3:=q.m c (by omega) (z45 _);omega
 exact⟨this.1,by omega,fun y y1 _=>z5p this.2 (z8s y1)⟩
theorem dn3{a b h z f:Nat}(p:Top a b h)(q1:a<=b+1)(q2:b<=a+1)(hz:z+2<=h)(hf:h<=z+(f+1)):b<=z+f/\z<=b+f:=by obtain⟨p1,p2,p3⟩:=p;omega
theorem Hi.sym{a b h:Nat}(p:Hi a b h):Hi b a h:=⟨p.r,p.l,fun z u v=>p.m z v u⟩
theorem zbq:∀(f c:Nat) {l r:D}{lt rt:List D}{lh rh:Nat}{n:Int}{S:Sto}{P:D->Prop},S[i]? = some (wd (yb k) n)->Mk k l lt lh->Mk k r rt rh->Thing k t->lt.length+1+rt.length<=2000->All P l->All P r->lh<=rh+c->rh<=lh+c->c<f ->
   ∃d h new S',zae f [.obj i,l,t,r] S=some (d,S')/\Res k i S n P (lt++t::rt) d h new S'/\Hi lh rh h/\(lh<=rh+1->rh<=lh+1->Top lh rh h)/\new.length<=9*c+1
 |0,_,_,_,_,_,_,_,_,_,_,_,_,_,_,_,_,_,_,_,hf=>absurd hf (z8d _)
 | f+1,c,l,r,lt,rt,lh,rh,n,S,P,hw,ml,mr,ht,hn,al,ar,hc1,hc2,hf=>by
   have bl:=za5 ml mr S;by_cases hb:lh<=rh+1/\rh<=lh+1
   · rw[z49 hb]at bl;obtain⟨d1,S1,g1,c1,r1,t1⟩:=y4 hw ml mr ht hb.1 hb.2 hn al ar;exact⟨d1,_,_,S1,ju rfl (qu (zy (qp (zi (a_c (e_v rfl) (a_c (e_v rfl) a_n)) bl)) (zq (qo (e_v rfl) (jc hw) (xr _ _) (a_c (e_v rfl) (a_c (e_v rfl) (a_c (e_v rfl) a_n))) c1)))),r1,t1.hi,fun _ _=>t1,z8c _ _⟩
   · rw[z47 hb]at bl;cases c with
     |zero=>omega
     | succ c=>
       by_cases hg:rh<lh
       · have hz:rh+2<=lh:=by omega
         clear hc2;obtain⟨x,u,y,xt,yt,xh,yh,w1,S1,c1,p⟩:=zag ml (z65 (z5t _) hg) hw al;have e1:=p.hts;subst e1;obtain⟨k1,k2⟩:=dn3 p.hh p.h1 p.h2 hz hc1;obtain⟨d1,g1,w2,S2,c2,r2,b1,b0,b2⟩:=zbq f c p.wt.at_ p.my mr ht (zyu hn) p.ay ar.old k1 k2 (Nat.lt_of_succ_lt_succ hf);have r2:=r2.after p.wt;obtain⟨k3,k4⟩:=dn1 p.hh p.h1 p.h2 hz b1;obtain⟨d2,g2,w3,S3,c3,r3,b5,b6,b7⟩:=ku r2.wt.at_ p.mx r2.mm p.ht k3 k4 (by rw[<-z0s];exact hn) p.ax.app r2.all;have r3:=r3.after r2.wt;exact⟨d2,g2,_,S3,ju rfl (ze (zk (qp (zi (a_c (e_v rfl) (a_c (e_v rfl) a_n)) bl))) (qu (zy (qp (e_2 (zi (a_c (e_v rfl) a_n) (jb ml S)) (zi (a_c (e_v rfl) a_n) (jb mr S)) (by rw[zwc,z49 hg]))) (ze (zl (zi (a_c (e_v rfl) (a_c (e_v rfl) a_n)) c1)) (zq (zi (a_c (e_v rfl) (a_c (qs (e_v rfl) e_k rfl) (a_c (qs (e_v rfl) e_k rfl) (a_c (zi (a_c (e_v rfl) (a_c (qs (e_v rfl) e_k rfl) (a_c (e_v rfl) (a_c (e_v rfl) a_n)))) c2) a_n)))) c3)))))),z0y xt yt rt▸r3,dn2 p.hh p.h1 p.h2 hz b1 b5 b6,fun u v=>absurd ⟨u,v⟩ hb,z3u p.few b2 b7⟩
       · have hz:lh+2<=rh:=by omega
         clear hc1;obtain⟨x,u,y,xt,yt,xh,yh,w1,S1,c1,p⟩:=zag mr (z48 (by decide) (z5p (z8c 2 lh) hz)) hw ar;have e1:=p.hts;subst e1;obtain⟨k1,k2⟩:=dn3 p.hh.sym p.h2 p.h1 hz hc2;obtain⟨d1,g1,w2,S2,c2,r2,b1,b0,b2⟩:=zbq f c p.wt.at_ ml p.mx ht (zyt hn) al.old p.ax k2 k1 (Nat.lt_of_succ_lt_succ hf);have r2:=r2.after p.wt;obtain⟨k3,k4⟩:=dn1 p.hh.sym p.h2 p.h1 hz b1.sym;obtain⟨d2,g2,w3,S3,c3,r3,b5,b6,b7⟩:=ku r2.wt.at_ r2.mm p.my p.ht k4 k3 (by rw[z0s];exact hn) r2.all p.ay.app;have r3:=r3.after r2.wt;exact⟨d2,g2,_,S3,ju rfl (ze (zk (qp (zi (a_c (e_v rfl) (a_c (e_v rfl) a_n)) bl))) (ze (zk (qp (e_2 (zi (a_c (e_v rfl) a_n) (jb ml S)) (zi (a_c (e_v rfl) a_n) (jb mr S)) (by rw[zwc,z47 hg])))) (ze (zl (zi (a_c (e_v rfl) (a_c (e_v rfl) a_n)) c1)) (zq (zi (a_c (e_v rfl) (a_c (zi (a_c (e_v rfl) (a_c (e_v rfl) (a_c (e_v rfl) (a_c (qs (e_v rfl) e_k rfl) a_n)))) c2) (a_c (qs (e_v rfl) e_k rfl) (a_c (qs (e_v rfl) e_k rfl) a_n)))) c3))))),(z0y lt xt yt).symm▸r3,(dn2 p.hh.sym p.h2 p.h1 hz b1.sym b5.sym fun u v=>(b6 v u).sym).sym,fun u v=>absurd ⟨u,v⟩ hb,z3u p.few b2 b7⟩
end Pg
namespace Pg
open PySem L2 F Mt
variable {k:Nat} [Kd k] {d l r t x y:D}{ts lt rt:List D}{h lh rh i:Nat}{n:Int}{S S0 S1:Sto}{ev e:Ev}{P Q:D->Prop}{a b new:List D}
theorem z3n(x y:Nat):zai (.int x) (.int y)=some (.bl (decide (x<y))):=z6w (fun b=>some (D.bl b)) (z6h.mpr Int.ofNat_lt)
theorem z3p(x y:Nat):zfv (.int x) (.int y)=some (.bl (decide (x<=y))):=z6w (fun b=>some (D.bl b)) (z6h.mpr Int.ofNat_le)
theorem zys{x y:Nat}(h:x<y):zai (.int x) (.int y)=some (.bl true):=by rw[z3n,z49 h]
theorem zuv{x y:Nat}(h:¬ x<y):zai (.int x) (.int y)=some (.bl false):=by rw[z3n,z47 h]
theorem zwa{x y:Nat}(h:x<=y):zfv (.int x) (.int y)=some (.bl true):=by rw[z3p,z49 h]
theorem z3q{x y:Nat}(h:¬ x<=y):zfv (.int x) (.int y)=some (.bl false):=by rw[z3p,z47 h]
theorem z2l{x y:Nat}(h:y<x):zfq (.int x) (.int y)=some (.bl true):=by rw[zwc,z49 h]
theorem z0t{x y:Nat}(h:¬ y<x):zfq (.int x) (.int y)=some (.bl false):=by rw[zwc,z47 h]
theorem z2t{x y:Nat}(h:x=y):ki (.int x) (.int y)=some (.bl true):=by rw[zo1,h];simp
theorem z0w{x y:Nat}(h:x≠y):ki (.int x) (.int y)=some (.bl false):=by rw[zo1];simp;omega
theorem zik{f g:E}{p m q:Nat}(hf:f ev S=some (.int p,S))(hg:g ev S=some (.int m,S))(hq:p=m+1+q):e2 zad (e2 zad f g) (eK (.int 1)) ev S=some (.int q,S) :=
 e_2 (e_2 hf hg (sub_int _ _)) e_k (by rw[sub_int,show(p:Int)-m-1=q by omega])
def HB(m h:Nat):Prop:=m<2^h/\2^h<=2*m+1
theorem zu0{m a b:Nat}(hm:0<m)(ha:HB (m/2) a)(hb:HB ((m-1)/2) b):a<=b+1/\b<=a+1/\∀h,Top a b h->HB m h:=by
 obtain⟨a1,a2⟩:=ha;obtain⟨b1,b2⟩:=hb;have h1:b<=a:=by
   rcases z7z a b with q | q
   · have:=Nat.pow_le_pow_right (n:=2) (by decide) (show a+1<=b from q);rw[Nat.pow_succ]at this;omega
   · exact q
 have h2:a<=b+1:=by
   rcases z7z (b+1) a with q | q
   · have:=Nat.pow_le_pow_right (n:=2) (by decide) (show b+1+1<=a from q);rw[Nat.pow_succ,Nat.pow_succ]at this;omega
   · exact q
 refine⟨h2,by omega,fun h ⟨_,_,e⟩=>?_⟩;have e:h=a+1:=by omega
 subst e;unfold HB;rw[Nat.pow_succ];cases a with
 |zero=>rw[Nat.pow_zero]at a1 a2 ⊢;omega
 |succ a=>rw[Nat.pow_succ]at a1 a2 ⊢;omega
theorem zz8(p a c:List D):atI (p++a++t::c) (((p.length+a.length:Nat)):Int)=some t:=zbf (by rw[z5j (by simp),z41];simp)
theorem halves:∀{ts:List D},ts≠[]->∃a t b,ts=a++t::b/\a.length=ts.length/2/\b.length=(ts.length-1)/2:=fun {ts} h=>by
 have hl:0<ts.length:=z56.mpr h;have hm:ts.length/2<ts.length:=by omega
 refine⟨ts.take (ts.length/2),ts[ts.length/2],ts.drop (ts.length/2+1),?_,?_,?_⟩
 · rw[<-z6l hm,List.take_append_drop]
 · rw[z5g];omega
 · rw[z5r];omega
theorem zhu:∀(f:Nat) {p ts q:List D}{n:Int}{S:Sto}{P:D->Prop},S[i]? = some (wd (yb k) n)->(∀x∈ts,Thing k x)->ts.length<=2000->ts.length<2^f->∀{s e:Nat},s=p.length->e=p.length+ts.length ->
   ∃d h new S',zg8 (f+1) [.obj i,.lst (p++ts++q),.int s,.int e] S=some (d,S')/\Res k i S n P ts d h new S'/\HB ts.length h
 | f,p,ts,q,n,S,P,hw,ht,hl,hf,s,e,hs,he=>by
   by_cases h0:ts=[]
   · subst h0;refine⟨.non,0,[],S,ju rfl (qu (zy (qp (e_2 (e_v rfl) (e_v rfl) (z2t (by simp[hs,he])))) (zq e_k))),⟨.non,Wt.nil hw,.non⟩,by decide,by decide⟩
   · obtain⟨a,t,b,e0,la,lb⟩:=halves h0;have hlen:0<ts.length:=z56.mpr h0;cases f with
     |zero=>rw[Nat.pow_zero]at hf;omega
     | succ f=>
       rw[Nat.pow_succ]at hf;obtain⟨d1,h1,w1,S1,c1,r1,b1⟩:=zhu f (p:=p) (ts:=a) (q:=t::b++q) (P:=P) hw (fun x hx=>ht x (by rw[e0];exact z6z _ hx)) (by omega) (by omega) hs rfl;obtain⟨d2,h2,w2,S2,c2,r2,b2⟩:=zhu f (p:=p++a++[t]) (ts:=b) (q:=q) (P:=Ac P n w1) r1.wt.at_ (fun x hx=>ht x (by rw[e0];exact z5f _ (z5d _ hx))) (by omega) (by omega) (s:=p.length+a.length+1) (e:=e) (by simp;omega) (by simp;omega);have r2:=r2.after r1.wt;rw[la]at b1;rw[lb]at b2;obtain⟨q1,q2,q3⟩:=zu0 hlen b1 b2;have e1:p++a++(t::b++q)=p++ts++q:=by rw[e0];simp
       have e2:p++a++[t]++b++q=p++ts++q:=by rw[e0];simp
       have e3:p++ts++q=p++a++t::(b++q):=by rw[e0];simp
       rw[e1]at c1;rw[e2]at c2;obtain⟨d3,S3,h3,c3,r3,t3⟩:=y4 r2.wt.at_ r1.mm r2.mm (ht t (by rw[e0];simp)) q1 q2 (by omega) r1.all.app r2.all;have r3:=r3.after r2.wt;rw[<-e0]at r3;have em:zbk (.int ((s:Int)+e)) (.int 2)=some (.int ((p.length+a.length:Nat):Int)):=by rw[zhh (by decide),show((s:Int)+e)/2=((p.length+a.length:Nat):Int) by omega]
       exact⟨d3,h3,_,S3,ju rfl (ze (zk (qp (e_2 (e_v rfl) (e_v rfl) (z0w (by omega))))) (ze (zl (e_2 (e_2 (e_v rfl) (e_v rfl) (add_int _ _)) e_k em)) (ze (zl (zi (a_c (e_v rfl) (a_c (e_v rfl) (a_c (e_v rfl) (a_c (e_v rfl) a_n)))) c1)) (ze (zl (zi (a_c (e_v rfl) (a_c (e_v rfl) (a_c (e_2 (e_v rfl) e_k (add_int _ _)) (a_c (e_v rfl) a_n)))) c2)) (zq (qo (e_v rfl) (jc r2.wt.at_) (xr _ _) (a_c (e_v rfl) (a_c (qs (e_v rfl) (e_v rfl) (by rw[e3];exact zz8 _ _ _)) (a_c (e_v rfl) a_n))) c3)))))),r3,q3 _ t3⟩
theorem zl0(hw:S[i]? = some (wd (yb k) n))(ht:∀x∈ts,Thing k x)(hl:ts.length<=2000):∃d h new S',za1 [.obj i,.lst ts] S=some (d,S')/\Res k i S n P ts d h new S':=by obtain⟨d,h,new,S1,c,r,_⟩:=zhu (i:=i) (k:=k) 39 (p:=[]) (ts:=ts) (q:=[]) (P:=P) hw ht hl (z65 hl (by decide)) (s:=0) (e:=ts.length) rfl (by simp);rw[List.nil_append,z5y]at c;exact⟨d,h,new,S1,ju rfl (ze (jf (zi (a_c (e_a (a_c (e_v rfl) a_n) rfl) a_n) (zgw hl S))) (zq (zi (a_c (e_v rfl) (a_c (e_v rfl) (a_c e_k (a_c (e_a (a_c (e_v rfl) a_n) rfl) a_n)))) c))),r⟩
theorem zzq(a b:Bool):ki (.bl a) (.bl b)=some (.bl (a==b)):=rfl
structure Seen (k:Nat) (us:List D) (h:Nat) (x t y:D) (c:Bool) (xt yt:List D) (xh yh:Nat):Prop where
 mx:Mk k x xt xh
 my:Mk k y yt yh
 ht:Thing k t
 hu:us=ord c xt++t::ord c yt
 hx:xh<h
 hy:yh<h
theorem znd(m:Mk k d ts h)(hh:0<h)(b:Bool)(S:Sto):∃x t y c xt yt xh yh,zk1 [d,.bl b] S=some (.tup [x,t,y,.bl c],S)/\Seen k (ord b ts) h x t y c xt yt xh yh:=by
 cases m with
 |non=>omega
 | @node num a l t r lt rt lh rh ml mr ht h1 h2=>
   unfold mkD;by_cases e:a=b
   · subst e;exact⟨l,t,r,false,lt,rt,lh,rh,ju rfl (qu (zy (qp (e_2 (qs (e_v rfl) e_k rfl) (e_v rfl) (by rw[zzq];simp))) (zq (jo (a_c (qs (e_v rfl) e_k rfl) (a_c (qs (e_v rfl) e_k rfl) (a_c (qs (e_v rfl) e_k rfl) (a_c e_k a_n)))) (z4z rfl))))),ml,mr,ht,by cases a<;>simp[ord],by omega,by omega⟩
   · exact⟨r,t,l,true,rt,lt,rh,lh,ju rfl (ze (zk (qp (e_2 (qs (e_v rfl) e_k rfl) (e_v rfl) (by rw[zzq];simp[e])))) (zq (jo (a_c (qs (e_v rfl) e_k rfl) (a_c (qs (e_v rfl) e_k rfl) (a_c (qs (e_v rfl) e_k rfl) (a_c e_k a_n)))) (z4z rfl)))),mr,ml,ht,by cases a<;>cases b<;>simp_all [ord],by omega,by omega⟩
theorem zbp(m:Mk k d ts h)(hl:ts≠[]):0<h:=by
 cases m with
 |non=>exact absurd rfl hl
 |node _ _ _ _ _=>omega
theorem zyg{p:Nat}(h:ts[p]? = some x):ts≠[]:=fun e=>by rw[e]at h;cases h
theorem zsl{c:Bool}(h:ord c ts≠[]):ts≠[]:=fun e=>h (by rw[e];cases c<;>rfl)
theorem za2:∀(f:Nat) {d:D}{ts:List D}{h p:Nat}{b:Bool},Mk k d ts h->h<=f->(ord b ts)[p]? = some x->∀S,kv f [d,.bl b,.int p] S=some (x,S)
 |0,d,ts,h,p,b,m,hf,hp,S=>absurd (zbp m (zsl (zyg hp))) (z82.mpr hf)
 | f+1,d,ts,h,p,b,m,hf,hp,S=>by
   obtain⟨u,t,y,c,xt,yt,xh,yh,c1,s⟩:=znd m (zbp m (zsl (zyg hp))) b S;have hu:=s.hu;rw[hu]at hp;have lx:=zah c xt;have hx:=s.hx;have hy:=s.hy;have c2:=q9 s.mx S;by_cases h1:p<xt.length
   · rw[z5h (by omega)]at hp;exact ju rfl (ze (zl (zi (a_c (e_v rfl) (a_c (e_v rfl) a_n)) c1)) (ze (zl (zi (a_c (qs (e_v rfl) e_k rfl) a_n) c2)) (qu (zy (qp (e_2 (e_v rfl) (e_v rfl) (zys h1))) (zq (zi (a_c (qs (e_v rfl) e_k rfl) (a_c (qs (e_v rfl) e_k rfl) (a_c (e_v rfl) a_n))) (za2 f s.mx (by omega) hp S)))))))
   · rw[z5j (by omega),lx]at hp;by_cases h2:xt.length<p
     · have e:p=xt.length+1+(p-xt.length-1):=by omega
       rw[show p-xt.length=(p-xt.length-1)+1 by omega,List.getElem?_cons_succ]at hp;exact ju rfl (ze (zl (zi (a_c (e_v rfl) (a_c (e_v rfl) a_n)) c1)) (ze (zl (zi (a_c (qs (e_v rfl) e_k rfl) a_n) c2)) (ze (zk (qp (e_2 (e_v rfl) (e_v rfl) (zuv h1)))) (qu (zy (qp (e_2 (e_v rfl) (e_v rfl) (z2l h2))) (zq (zi (a_c (qs (e_v rfl) e_k rfl) (a_c (qs (e_v rfl) e_k rfl) (a_c (zik (e_v rfl) (e_v rfl) e) a_n))) (za2 f s.my (by omega) hp S))))))))
     · rw[show p-xt.length=0 by omega,List.getElem?_cons_zero]at hp;cases hp;exact ju rfl (ze (zl (zi (a_c (e_v rfl) (a_c (e_v rfl) a_n)) c1)) (ze (zl (zi (a_c (qs (e_v rfl) e_k rfl) a_n) c2)) (ze (zk (qp (e_2 (e_v rfl) (e_v rfl) (zuv h1)))) (ze (zk (qp (e_2 (e_v rfl) (e_v rfl) (z0t h2)))) (zq (qs (e_v rfl) e_k rfl))))))
end Pg
namespace Pg
open PySem L2 F Mt
variable {k:Nat} [Kd k] {d l r t x y:D}{ts lt rt:List D}{h lh rh i:Nat}{n:Int}{S S0 S1:Sto}{ev e:Ev}{P Q:D->Prop}{a b new:List D}
theorem zyp(m:Mk k d [] h):d=.non/\h=0:=by
 generalize e:([]:List D)=ts at m;cases m with
 |non=>exact⟨rfl,rfl⟩
 |node _ _ _ _ _=>exact absurd (z6w List.length e) (by rw[zah];simp)
theorem h15(m:Mk k d ts h)(hl:ts.length<=2000):h<=15:=by
 have q:=zyq m;rcases z7z 15 h with z | z
 · have:low 16<=low h:=zg2 z;have e:low 16=2583:=by decide
   omega
 · exact z
theorem o1{xh yh h g:Nat}(p:Top xh yh h)(q1:xh<=yh+1)(q2:yh<=xh+1)(g1:g<=xh)(g2:xh<=g+1):(g<=yh+2/\yh<=g+2)/\∀z,Hi g yh z->(g<=yh+1->yh<=g+1->Top g yh z)->z<=h/\h<=z+1:=by
 obtain⟨p1,p2,p3⟩:=p;refine⟨⟨by omega,by omega⟩,fun z hz ht=>?_⟩;by_cases hb:g<=yh+1/\yh<=g+1
 · obtain⟨t1,t2,t3⟩:=ht hb.1 hb.2;omega
 · have:=hz.r;have:=hz.m yh (by omega) (z45 _);omega
theorem zrl{a b c:List D}{m xh yh h:Nat}(p:Top xh yh h)(h1:a.length<=2)(h2:b.length<=9*xh+m)(h3:c.length<=7):(a++b++c).length<=9*h+m:=by have:=p.l;simp only[z41];omega
theorem zss{a b c:List D}{m xh yh h:Nat}(p:Top xh yh h)(h1:a.length<=2)(h2:b.length<=9*yh+m)(h3:c.length<=7):(a++b++c).length<=9*h+m:=zrl p.sym h1 h2 h3
theorem zn3:¬ (0:Nat)<0:=by decide
theorem zuy{self:G}(S:Sto):xl self [.obj i,.non,y] S=some (y,S):=rfl
theorem znx:∀(f:Nat) {d u:D}{rest:List D}{h:Nat}{n:Int}{S:Sto}{P:D->Prop},S[i]? = some (wd (yb k) n)->Mk k d (u::rest) h->rest.length<2000->All P d->h<=f ->
   ∃d' h' new S',xj f [.obj i,d,.int (0:Nat)] S=some (d',S')/\Res k i S n P rest d' h' new S'/\(h'<=h/\h<=h'+1)/\new.length<=9*h
 |0,_,_,_,_,_,_,_,_,m,_,_,hf=>absurd (zbp m (by simp)) (z82.mpr hf)
 | f+1,d,u,rest,h,n,S,P,hw,m,hl,al,hf=>by
   obtain⟨x,v,y,xt,yt,xh,yh,w1,S1,c1,p⟩:=zag m (zbp m (by simp)) hw al;have e1:=p.hts;have c2:=q9 p.mx S1;cases xt with
   | nil=>
     obtain⟨rfl,rfl⟩:=zyp p.mx;simp only[List.nil_append,z6v]at e1;obtain⟨rfl,rfl⟩:=e1;have e:h=yh+1:=by have:=p.hh.l;have:=p.hh.r;have:=p.hh.e;omega
     exact⟨y,yh,w1,S1,ju rfl (ze (zl (zi (a_c (e_v rfl) (a_c (e_v rfl) a_n)) c1)) (ze (zl (zi (a_c (qs (e_v rfl) e_k rfl) a_n) c2)) (ze (zk (qp (e_2 (e_v rfl) (e_v rfl) (zuv zn3)))) (ze (zk (qp (e_2 (e_v rfl) (e_v rfl) (z0t zn3)))) (zq (zi (a_c (e_v rfl) (a_c (qs (e_v rfl) e_k rfl) (a_c (qs (e_v rfl) e_k rfl) a_n))) (zuy S1))))))),⟨p.my,p.wt,p.ay⟩,⟨by omega,by omega⟩,by have:=p.few;omega⟩
   | cons u' xt=>
     simp only[List.cons_append,z6v]at e1;obtain⟨rfl,rfl⟩:=e1;simp only[z41,List.length_cons]at hl;have hx:=p.hh.l;obtain⟨d1,g,w2,S2,c3,r2,⟨b1,b2⟩,b3⟩:=znx f p.wt.at_ p.mx (by omega) p.ax (by omega);have r2:=r2.after p.wt;obtain⟨⟨k1,k2⟩,k3⟩:=o1 p.hh p.h1 p.h2 b1 b2;obtain⟨d2,g2,w3,S3,c4,r3,b5,b6,b7⟩:=ku r2.wt.at_ r2.mm p.my p.ht k1 k2 (by omega) r2.all p.ay.app;have r3:=r3.after r2.wt;exact⟨d2,g2,_,S3,ju rfl (ze (zl (zi (a_c (e_v rfl) (a_c (e_v rfl) a_n)) c1)) (ze (zl (zi (a_c (qs (e_v rfl) e_k rfl) a_n) c2)) (qu (zy (qp (e_2 (e_v rfl) (e_v rfl) (zys (Nat.zero_lt_succ _)))) (zq (zi (a_c (e_v rfl) (a_c (zi (a_c (e_v rfl) (a_c (qs (e_v rfl) e_k rfl) (a_c (e_v rfl) a_n))) c3) (a_c (qs (e_v rfl) e_k rfl) (a_c (qs (e_v rfl) e_k rfl) a_n)))) c4)))))),r3,k3 _ b5 b6,zrl (m:=0) p.hh p.few b3 b7⟩
theorem hi0(h:Nat):Hi 0 h h:=⟨z5t _,z45 _,fun z _ q=>Nat.le_succ_of_le q⟩
theorem ld1{lh rh g c:Nat}(g1:g<=rh)(g2:rh<=g+1)(c1:lh<=rh+c)(c2:rh<=lh+c):lh<=g+(c+1)/\g<=lh+(c+1):=by omega
theorem ld2{lh rh g z:Nat}(g1:g<=rh)(g2:rh<=g+1)(h:Hi lh g z)(w:lh<=g+1->g<=lh+1->Top lh g z)(c1:lh<=rh+1)(c2:rh<=lh+1):Hi lh rh z:=by
 refine⟨h.l,?_,fun y y1 y2=>h.m y y1 (by omega)⟩;by_cases hb:lh<=g+1/\g<=lh+1
 · obtain⟨t1,t2,t3⟩:=w hb.1 hb.2;omega
 · have:=h.l;omega
theorem zkb(m:Mk k d ts h):(d=.non/\ts=[]/\h=0)\/((∃xs,d=.tup xs)/\∃u rest,ts=u::rest):=by
 cases m with
 |non=>exact .inl ⟨rfl,rfl,rfl⟩
 | @node num a l t r lt rt lh rh _ _ _ _ _=>
   refine .inr ⟨⟨_,rfl⟩,?_⟩;cases e:ord a (lt++t::rt) with
   |nil=>exact absurd (z6w List.length e) (by rw[zah];simp)
   |cons u rest=>exact⟨u,rest,rfl⟩
theorem zso(xs:List D):zev (.tup xs) .non=some (.bl false):=rfl
theorem zoh{f c:Nat}(hw:S[i]? = some (wd (yb k) n))(ml:Mk k l lt lh)(mr:Mk k r rt rh)(hn:lt.length+rt.length<=2000)(al:All P l)(ar:All P r)(hf:rh<=f)(c1:lh<=rh+c)(c2:rh<=lh+c) :
   ∃d h new S',xl (xj f) [.obj i,l,r] S=some (d,S')/\Res k i S n P (lt++rt) d h new S'/\(lh<=rh+1->rh<=lh+1->Hi lh rh h)/\new.length<=9*rh+9*c+10:=by
 rcases zkb ml with⟨rfl,rfl,rfl⟩ | ⟨⟨xs,rfl⟩,u0,r0,rfl⟩
 · exact⟨r,rh,[],S,rfl,⟨mr,Wt.nil hw,ar.old⟩,fun _ _=>hi0 rh,z5t _⟩
 · rcases zkb mr with⟨rfl,rfl,rfl⟩ | ⟨⟨ys,rfl⟩,u,rest,rfl⟩
   · exact⟨_,lh,[],S,rfl,⟨by rw[z5y];exact ml,Wt.nil hw,al.old⟩,fun _ _=>(hi0 lh).sym,z5t _⟩
   · simp only[List.length_cons]at hn;have l15:=h15 ml (by simp only[List.length_cons];omega);have r15:=h15 mr (by simp only[List.length_cons];omega);obtain⟨d1,g,w1,S1,q1,r1,⟨b1,b2⟩,b3⟩:=znx f hw mr (by omega) ar hf;have at0:=za2 (x:=u) 40 (b:=false) (p:=0) mr (by omega) rfl S;have hj:∃c',c'<40/\c'<=c+1/\lh<=g+c'/\g<=lh+c':=by
       obtain⟨z1,z2⟩:=ld1 b1 b2 c1 c2;rcases z7z c 30 with q | q
       · exact⟨c+1,by omega,z45 _,z1,z2⟩
       · exact⟨16,by decide,by omega,by omega,by omega⟩
     obtain⟨c',j1,j2,j3,j4⟩:=hj;obtain⟨d2,g2,w2,S2,q2,r2,b5,b6,b7⟩:=zbq 40 c' r1.wt.at_ ml r1.mm (mr.things u (z5w ..)) (by simp only[List.length_cons];omega) al.old r1.all j3 j4 j1;have r2:=r2.after r1.wt;exact⟨d2,g2,_,S2,ju rfl (ze (zk (qp (e_2 (e_v rfl) e_k (zso _)))) (ze (zk (qp (e_2 (e_v rfl) e_k (zso _)))) (zq (zi (a_c (e_v rfl) (a_c (e_v rfl) (a_c (zi (a_c (e_v rfl) (a_c e_k (a_c e_k a_n))) at0) (a_c (zi (a_c (e_v rfl) (a_c (e_v rfl) (a_c e_k a_n))) q1) a_n)))) q2)))),r2,ld2 b1 b2 b5 b6,by simp only[z41];omega⟩
theorem zvo{p:Nat}(h:p<a.length):(a++t::b).eraseIdx p=a.eraseIdx p++t::b:=List.eraseIdx_append_of_lt_length h _
theorem zvn:(a++t::b).eraseIdx a.length=a++b:=by rw[z7o (z45 _),Nat.sub_self];rfl
theorem zvm{q:Nat}:(a++t::b).eraseIdx (a.length+1+q)=a++t::b.eraseIdx q:=by rw[z7o (by omega),show a.length+1+q-a.length=q+1 by omega];rfl
theorem zbm:∀(f:Nat) {d:D}{ts:List D}{h p:Nat}{n:Int}{S:Sto}{P:D->Prop},S[i]? = some (wd (yb k) n)->Mk k d ts h->ts.length<=2000->p<ts.length->All P d->h<=f ->
   ∃d' h' new S',xj f [.obj i,d,.int p] S=some (d',S')/\Res k i S n P (ts.eraseIdx p) d' h' new S'/\(h'<=h/\h<=h'+1)/\new.length<=9*h+21
 |0,d,ts,h,p,n,S,P,hw,m,hl,hp,al,hf=>absurd (zbp m (z56.mp (by omega))) (z82.mpr hf)
 | f+1,d,ts,h,p,n,S,P,hw,m,hl,hp,al,hf=>by
   obtain⟨x,v,y,xt,yt,xh,yh,w1,S1,c1,q⟩:=zag m (zbp m (z56.mp (by omega))) hw al;have e1:=q.hts;subst e1;have c2:=q9 q.mx S1;have hx:=q.hh.l;have hy:=q.hh.r;simp only[z41,List.length_cons]at hl hp;by_cases h1:p<xt.length
   · obtain⟨d1,g,w2,S2,c3,r2,⟨b1,b2⟩,b3⟩:=zbm f q.wt.at_ q.mx (by omega) h1 q.ax (by omega);have r2:=r2.after q.wt;obtain⟨⟨k1,k2⟩,k3⟩:=o1 q.hh q.h1 q.h2 b1 b2;obtain⟨d2,g2,w3,S3,c4,r3,b5,b6,b7⟩:=ku r2.wt.at_ r2.mm q.my q.ht k1 k2 (by rw[z8f h1];omega) r2.all q.ay.app;have r3:=r3.after r2.wt;exact⟨d2,g2,_,S3,ju rfl (ze (zl (zi (a_c (e_v rfl) (a_c (e_v rfl) a_n)) c1)) (ze (zl (zi (a_c (qs (e_v rfl) e_k rfl) a_n) c2)) (qu (zy (qp (e_2 (e_v rfl) (e_v rfl) (zys h1))) (zq (zi (a_c (e_v rfl) (a_c (zi (a_c (e_v rfl) (a_c (qs (e_v rfl) e_k rfl) (a_c (e_v rfl) a_n))) c3) (a_c (qs (e_v rfl) e_k rfl) (a_c (qs (e_v rfl) e_k rfl) a_n)))) c4)))))),by rw[zvo h1];exact r3,k3 _ b5 b6,zrl q.hh q.few b3 b7⟩
   · by_cases h2:xt.length<p
     · obtain⟨z,e⟩:∃z,p=xt.length+1+z:=⟨p-xt.length-1,by omega⟩
       have hz:z<yt.length:=by omega
       obtain⟨d1,g,w2,S2,c3,r2,⟨b1,b2⟩,b3⟩:=zbm f (p:=z) q.wt.at_ q.my (by omega) hz q.ay (by omega);have r2:=r2.after q.wt;obtain⟨⟨k1,k2⟩,k3⟩:=o1 q.hh.sym q.h2 q.h1 b1 b2;obtain⟨d2,g2,w3,S3,c4,r3,b5,b6,b7⟩:=ku r2.wt.at_ q.mx r2.mm q.ht k2 k1 (by rw[z8f hz];omega) q.ax.app r2.all;have r3:=r3.after r2.wt;exact⟨d2,g2,_,S3,ju rfl (ze (zl (zi (a_c (e_v rfl) (a_c (e_v rfl) a_n)) c1)) (ze (zl (zi (a_c (qs (e_v rfl) e_k rfl) a_n) c2)) (ze (zk (qp (e_2 (e_v rfl) (e_v rfl) (zuv h1)))) (qu (zy (qp (e_2 (e_v rfl) (e_v rfl) (z2l h2))) (zq (zi (a_c (e_v rfl) (a_c (qs (e_v rfl) e_k rfl) (a_c (qs (e_v rfl) e_k rfl) (a_c (zi (a_c (e_v rfl) (a_c (qs (e_v rfl) e_k rfl) (a_c (zik (e_v rfl) (e_v rfl) e) a_n))) c3) a_n)))) c4))))))),by rw[e,zvm];exact r3,k3 _ b5.sym fun u v=>(b6 v u).sym,zss q.hh q.few b3 b7⟩
     · have e:p=xt.length:=by omega
       obtain⟨d1,g,w2,S2,c3,r2,b1,b2⟩:=zoh (f:=f) (c:=1) q.wt.at_ q.mx q.my (by omega) q.ax q.ay (by omega) q.h1 q.h2;have r2:=r2.after q.wt;have hi:=b1 q.h1 q.h2;have hm:=hi.m (h-1) (by omega) (by omega);have h1':=hi.l;have h2':=hi.r;have he:=q.hh.e;have hf:=q.few;exact⟨d1,g,_,S2,ju rfl (ze (zl (zi (a_c (e_v rfl) (a_c (e_v rfl) a_n)) c1)) (ze (zl (zi (a_c (qs (e_v rfl) e_k rfl) a_n) c2)) (ze (zk (qp (e_2 (e_v rfl) (e_v rfl) (zuv h1)))) (ze (zk (qp (e_2 (e_v rfl) (e_v rfl) (z0t h2)))) (zq (zi (a_c (e_v rfl) (a_c (qs (e_v rfl) e_k rfl) (a_c (qs (e_v rfl) e_k rfl) a_n))) c3)))))),by rw[e,zvn];exact r2,⟨by omega,by omega⟩,by simp only[z41];omega⟩
end Pg
namespace Pg
open PySem L2 F Mt
variable {k:Nat} [Kd k] {d l r t x y:D}{ts lt rt:List D}{h lh rh i:Nat}{n:Int}{S S0 S1:Sto}{ev e:Ev}{P Q:D->Prop}{a b new:List D}
structure Cut (k i:Nat) (S:Sto) (n:Int) (P:D->Prop) (lt rt:List D) (h:Nat) (x y:D) (xh yh:Nat) (new:List D) (S':Sto):Prop where
 wt:Wt k i S n new S'
 mx:Mk k x lt xh
 my:Mk k y rt yh
 hx:xh<=h
 hy:yh<=h
 ax:All (Ac P n new) x
 ay:All (Ac P n new) y
 few:new.length<=9*(xh+yh)+3*h
theorem ct1{xh yh bh h:Nat}(p:Top xh yh h)(h1:xh<=yh+1)(hb:bh<=xh)(h40:h<40):∃c,c<40/\bh<=yh+c/\yh<=bh+c/\∀z ah l1 l2 l3,Hi bh yh z->(bh<=yh+1->yh<=bh+1->Top bh yh z)->l1<=2->l2<=9*(ah+bh)+3*xh->l3<=9*c+1->l1+l2+l3<=9*(ah+z)+3*h:=by
 obtain⟨p1,p2,p3⟩:=p;by_cases q:bh<=yh
 · exact⟨yh-bh,by omega,by omega,by omega,fun z ah l1 l2 l3 hz _ _ _ _=>by have:=hz.r;omega⟩
 · exact⟨1,by decide,by omega,by omega,fun z ah l1 l2 l3 _ hz _ _ _=>by have:=(hz (by omega) (by omega)).l;omega⟩
theorem zy5{a b z h:Nat}(p:Hi a b z)(h1:a<h)(h2:b<h):z<=h:=by have:=p.m (h-1) (by omega) (by omega);omega
theorem zr8{p:Nat}(h:p<=a.length):(a++t::b).take p=a.take p:=List.take_append_of_le_length h
theorem zsx{p:Nat}(h:p<=a.length):(a++t::b).drop p=a.drop p++t::b:=z73 h
theorem zr7{q:Nat}:(a++t::b).take (a.length+1+q)=a++t::b.take q:=by rw[List.take_append,List.take_of_length_le (by omega),show a.length+1+q-a.length=q+1 by omega,List.take_succ_cons]
theorem zsv{q:Nat}:(a++t::b).drop (a.length+1+q)=b.drop q:=by rw[List.drop_append,List.drop_of_length_le (by omega),show a.length+1+q-a.length=q+1 by omega,List.drop_succ_cons,List.nil_append]
theorem y7:∀(f:Nat) {d:D}{ts:List D}{h p:Nat}{n:Int}{S:Sto}{P:D->Prop},S[i]? = some (wd (yb k) n)->Mk k d ts h->ts.length<=2000->p<=ts.length->All P d->h<f ->
   ∃x y xh yh new S',yp f [.obj i,d,.int p] S=some (.tup [x,y],S')/\Cut k i S n P (ts.take p) (ts.drop p) h x y xh yh new S'
 |0,_,_,_,_,_,_,_,_,_,_,_,_,hf=>absurd hf (z8d _)
 | f+1,d,ts,h,p,n,S,P,hw,m,hl,hp,al,hf=>by
   by_cases h0:p=0
   · subst h0;exact⟨.non,d,0,h,[],S,ju rfl (qu (zy (qp (e_2 (e_v rfl) e_k (z2t rfl))) (zq (jo (a_c e_k (a_c (e_v rfl) a_n)) (z4z rfl))))),Wt.nil hw,.non,m,z5t _,z45 _,.non,al.old,z5t _⟩
   · have c0:=q9 m S;have e0:ki (.int p) (.int 0)=some (.bl false):=z0w (y:=0) h0;by_cases h9:p=ts.length
     · subst h9;exact⟨d,.non,h,0,[],S,ju rfl (ze (zk (qp (e_2 (e_v rfl) e_k e0))) (qu (zy (qp (e_2 (e_v rfl) (zi (a_c (e_v rfl) a_n) c0) (z2t rfl))) (zq (jo (a_c (e_v rfl) (a_c e_k a_n)) (z4z rfl)))))),Wt.nil hw,by rw[List.take_length];exact m,by rw[z8t];exact .non,z45 _,z5t _,al.old,.non,z5t _⟩
     · have h40:=h15 m hl;obtain⟨x,v,y,xt,yt,xh,yh,w1,S1,c1,q⟩:=zag m (zbp m (z56.mp (by omega))) hw al;have e1:=q.hts;subst e1;have c2:=q9 q.mx S1;have hx:=q.hh.l;have hy:=q.hh.r;have hl':=hl;have hp':=hp;simp only[z41,List.length_cons]at hl' hp';by_cases h1:p<=xt.length
       · obtain⟨a,b,ah,bh,w2,S2,c3,u⟩:=y7 f q.wt.at_ q.mx (by omega) h1 q.ax (by omega);have wt2:=q.wt.two u.wt;obtain⟨c,j1,j2,j3,j4⟩:=ct1 q.hh q.h1 u.hy (by omega);obtain⟨d2,g2,w3,S3,c4,r3,b5,b6,b7⟩:=zbq 40 c wt2.at_ u.my q.my q.ht (by rw[z5r];omega) u.ay.two q.ay.app j2 j3 j1;have r3:=r3.after wt2;have fw:=j4 _ ah _ _ _ b5 b6 q.few u.few b7;refine⟨a,d2,ah,g2,_,S3,ju rfl (ze (zk (qp (e_2 (e_v rfl) e_k e0))) (ze (zk (qp (e_2 (e_v rfl) (zi (a_c (e_v rfl) a_n) c0) (z0w h9)))) (ze (zl (zi (a_c (e_v rfl) (a_c (e_v rfl) a_n)) c1)) (ze (zl (zi (a_c (qs (e_v rfl) e_k rfl) a_n) c2)) (qu (zy (qp (e_2 (e_v rfl) (e_v rfl) (zwa h1))) (ze (zl (zi (a_c (e_v rfl) (a_c (qs (e_v rfl) e_k rfl) (a_c (e_v rfl) a_n))) c3)) (zq (jo (a_c (qs (e_v rfl) e_k rfl) (a_c (zi (a_c (e_v rfl) (a_c (qs (e_v rfl) e_k rfl) (a_c (qs (e_v rfl) e_k rfl) (a_c (qs (e_v rfl) e_k rfl) a_n)))) c4) a_n)) (z4z rfl)))))))))),⟨r3.wt,by rw[zr8 h1];exact u.mx,by rw[zsx h1];exact r3.mm,z5p u.hx (z6t hx),zy5 b5 (z65 u.hy hx) hy,u.ax.two.app,r3.all,by rw[z41,z41];exact fw⟩⟩
       · obtain⟨z,e⟩:∃z,p=xt.length+1+z:=⟨p-xt.length-1,by omega⟩
         obtain⟨a,b,ah,bh,w2,S2,c3,u⟩:=y7 f (p:=z) q.wt.at_ q.my (by omega) (by omega) q.ay (by omega);have wt2:=q.wt.two u.wt;obtain⟨c,j1,j2,j3,j4⟩:=ct1 q.hh.sym q.h2 u.hx (by omega);obtain⟨d2,g2,w3,S3,c4,r3,b5,b6,b7⟩:=zbq 40 c wt2.at_ q.mx u.mx q.ht (by rw[z5g];omega) q.ax.app u.ax.two j3 j2 j1;have r3:=r3.after wt2;have fw:=j4 _ bh _ _ _ b5.sym (fun u v=>(b6 v u).sym) q.few (by have:=u.few;rwa [Nat.add_comm ah bh]at this) b7;rw[Nat.add_comm bh]at fw;refine⟨d2,b,g2,bh,_,S3,ju rfl (ze (zk (qp (e_2 (e_v rfl) e_k e0))) (ze (zk (qp (e_2 (e_v rfl) (zi (a_c (e_v rfl) a_n) c0) (z0w h9)))) (ze (zl (zi (a_c (e_v rfl) (a_c (e_v rfl) a_n)) c1)) (ze (zl (zi (a_c (qs (e_v rfl) e_k rfl) a_n) c2)) (ze (zk (qp (e_2 (e_v rfl) (e_v rfl) (z3q h1)))) (ze (zl (zi (a_c (e_v rfl) (a_c (qs (e_v rfl) e_k rfl) (a_c (zik (e_v rfl) (e_v rfl) e) a_n))) c3)) (zq (jo (a_c (zi (a_c (e_v rfl) (a_c (qs (e_v rfl) e_k rfl) (a_c (qs (e_v rfl) e_k rfl) (a_c (qs (e_v rfl) e_k rfl) a_n)))) c4) (a_c (qs (e_v rfl) e_k rfl) a_n)) (z4z rfl))))))))),⟨r3.wt,by rw[e,zr7];exact r3.mm,by rw[e,zsv];exact u.my,zy5 b5 hx (z65 u.hx hy),z5p u.hy (z6t hy),r3.all,u.ay.two.app,by rw[z41,z41];exact fw⟩⟩
theorem zz0{s e m:Nat}{f g w z:E}(hs:s<=e)(he:e<=m)(h0:f ev S=some (.int (0:Nat),S))(h1:g ev S=some (.int s,S))(h2:w ev S=some (.int e,S))(h3:z ev S=some (.int m,S)):zhd zfv zfv zfv f g w z ev S=some (.bl true,S):=by simp only[zhd,h0,h1,h2,h3,Option.bind_some,zwa (z5t s),zwa hs,zwa he,Option.map_some]
theorem zlk{s e:Nat}(m:Mk k d ts h)(hs:s<=e)(he:e<=ts.length)(S:Sto):zam [d,.int s,.int e] S=some (.non,S) :=
 zme rfl (zk (zwf (qp (zz0 hs he e_k (e_v rfl) (e_v rfl) (zi (a_c (e_v rfl) a_n) (q9 m S))))))
def turn(s e:Nat)(ts:List D):List D:=ts.take s++((ts.take e).drop s).reverse++ts.drop e
theorem zp2{s e:Nat}(hs:s<=e)(he:e<=ts.length):(turn s e ts).length=ts.length:=by simp only[turn,z41,z6j,z5r,z5g];omega
theorem zog(hw:S[i]? = some (wd (yb k) n))(ml:Mk k l lt lh)(mr:Mk k r rt rh)(hn:lt.length+rt.length<=2000)(al:All P l)(ar:All P r):∃d h new S',yd [.obj i,l,r] S=some (d,S')/\Res k i S n P (lt++rt) d h new S'/\new.length<=9*rh+9*max lh rh+10:=by have h1:=h15 mr (by omega);obtain⟨d,h,new,S1,c,r,_,b⟩:=zoh (f:=40) (c:=max lh rh) hw ml mr hn al ar (by omega) (by omega) (by omega);exact⟨d,h,new,S1,c,r,b⟩
theorem zfs{s e:Nat}(hw:S[i]? = some (wd (yb k) n))(m:Mk k d ts h)(hl:ts.length<=2000)(hs:s<=e)(he:e<=ts.length)(al:All P d):∃d' h' new S',za6 [.obj i,d,.int s,.int e] S=some (d',S')/\Res k i S n P (turn s e ts) d' h' new S':=by
 have h1:=h15 m hl;obtain⟨x,y,xh,yh,w1,S1,c1,u⟩:=y7 40 hw m hl he al (by omega);have hx:=u.hx;obtain⟨x',y',xh',yh',w2,S2,c2,u'⟩:=y7 40 (p:=s) u.wt.at_ u.mx (by rw[z5g];omega) (by rw[z5g];omega) u.ax (by omega);have wt2:=u.wt.two u'.wt;obtain⟨d3,w3,S3,c3,r3,_⟩:=zp1 u'.my wt2.at_ u'.ay.two;have r3:=r3.after wt2;obtain⟨d4,h4,w4,S4,c4,r4,_⟩:=zog r3.wt.at_ u'.mx r3.mm (by simp only[z6j,z5r,z5g];omega) u'.ax.two.app r3.all;have r4:=r4.after r3.wt;obtain⟨d5,h5,w5,S5,c5,r5,_⟩:=zog r4.wt.at_ r4.mm u.my (by simp only[z41,z6j,z5r,z5g];omega) r4.all u.ay.app.app.app;have r5:=r5.after r4.wt;have es:(ts.take e).take s=ts.take s:=by rw[List.take_take,z8e hs]
 rw[es]at r5;exact⟨d5,h5,_,S5,ju rfl (ze (jf (zi (a_c (e_v rfl) (a_c (e_v rfl) (a_c (e_v rfl) a_n))) (zlk m hs he S))) (ze (zl (zi (a_c (e_v rfl) (a_c (e_v rfl) (a_c (e_v rfl) a_n))) c1)) (ze (zl (zi (a_c (e_v rfl) (a_c (qs (e_v rfl) e_k rfl) (a_c (e_v rfl) a_n))) c2)) (ze (zl (zi (a_c (e_v rfl) (a_c (qs (e_v rfl) e_k rfl) (a_c (qo (e_v rfl) (jc wt2.at_) (zel _ _) (a_c (qs (e_v rfl) e_k rfl) a_n) c3) a_n))) c4)) (zq (zi (a_c (e_v rfl) (a_c (e_v rfl) (a_c (qs (e_v rfl) e_k rfl) a_n))) c5)))))),r5⟩
end Pg
namespace Pg
open PySem L2 F Mt
variable {k:Nat} [Kd k] {d l r t x y:D}{ts lt rt:List D}{h lh rh i:Nat}{n:Int}{S S0 S1:Sto}{ev e:Ev}{P Q:D->Prop}{a b new:List D}
theorem p1{xh yh h g:Nat}(p:Top xh yh h)(q1:xh<=yh+1)(q2:yh<=xh+1)(g1:xh<=g)(g2:g<=xh+1):(g<=yh+2/\yh<=g+2)/\∀z,Hi g yh z->(g<=yh+1->yh<=g+1->Top g yh z)->h<=z/\z<=h+1:=by
 obtain⟨p1,p2,p3⟩:=p;refine⟨⟨by omega,by omega⟩,fun z hz ht=>?_⟩;by_cases hb:g<=yh+1/\yh<=g+1
 · obtain⟨t1,t2,t3⟩:=ht hb.1 hb.2;omega
 · have:=hz.l;have:=hz.m g (z45 _) (by omega);omega
theorem z1m{p:Nat}(h:p<=a.length):(a++t::b).take p++x::(a++t::b).drop p=(a.take p++x::a.drop p)++t::b:=by rw[zr8 h,zsx h];simp
theorem z1l{q:Nat}:(a++t::b).take (a.length+1+q)++x::(a++t::b).drop (a.length+1+q)=a++t::(b.take q++x::b.drop q):=by rw[zr7,zsv];simp
theorem zji(p:Nat):(ts.take p++x::ts.drop p).length=ts.length+1:=by simp only[z41,List.length_cons,z5g,z5r];omega
theorem zet:∀(f:Nat) {d:D}{ts:List D}{h p:Nat}{n:Int}{S:Sto}{P:D->Prop},S[i]? = some (wd (yb k) n)->Mk k d ts h->ts.length<2000->p<=ts.length->Thing k x->All P d->h<f ->
   ∃d' h' new S',zef f [.obj i,d,.int p,x] S=some (d',S')/\Res k i S n P (ts.take p++x::ts.drop p) d' h' new S'/\(h<=h'/\h'<=h+1)/\new.length<=9*h+1
 |0,_,_,_,_,_,_,_,_,_,_,_,_,_,hf=>absurd hf (z8d _)
 | f+1,d,ts,h,p,n,S,P,hw,m,hl,hp,ht,al,hf=>by
   rcases zkb m with⟨rfl,rfl,rfl⟩ | ⟨⟨xs,ed⟩,u0,r0,e0⟩
   · obtain⟨d1,S1,g1,c1,r1,t1⟩:=y4 hw (.non (k:=k)) (.non (k:=k)) ht (z7c 0) (z7c 0) (by decide) (All.non (P:=P)) .non;have e:g1=1:=by have:=t1.e;omega
     subst e;exact⟨d1,1,_,S1,ju rfl (qu (zy (qp (e_2 (e_v rfl) e_k rfl)) (zq (qo (e_v rfl) (jc hw) (xr _ _) (a_c e_k (a_c (e_v rfl) (a_c e_k a_n))) c1)))),by simpa using r1,⟨z5t _,z45 _⟩,z45 _⟩
   · obtain⟨z,v,y,xt,yt,xh,yh,w1,S1,c1,q⟩:=zag m (zbp m (by rw[e0];simp)) hw al;have e1:=q.hts;subst e1;have c2:=q9 q.mx S1;have hx:=q.hh.l;have hy:=q.hh.r;have hi:zev d .non=some (.bl false):=by rw[ed];rfl
     simp only[z41,List.length_cons]at hl hp;by_cases h1:p<=xt.length
     · obtain⟨d1,g,w2,S2,c3,r2,⟨b1,b2⟩,b3⟩:=zet f q.wt.at_ q.mx (by omega) h1 ht q.ax (by omega);have r2:=r2.after q.wt;obtain⟨⟨k1,k2⟩,k3⟩:=p1 q.hh q.h1 q.h2 b1 b2;obtain⟨d2,g2,w3,S3,c4,r3,b5,b6,b7⟩:=ku r2.wt.at_ r2.mm q.my q.ht k1 k2 (by rw[zji];omega) r2.all q.ay.app;have r3:=r3.after r2.wt;exact⟨d2,g2,_,S3,ju rfl (ze (zk (qp (e_2 (e_v rfl) e_k hi))) (ze (zl (zi (a_c (e_v rfl) (a_c (e_v rfl) a_n)) c1)) (ze (zl (zi (a_c (qs (e_v rfl) e_k rfl) a_n) c2)) (qu (zy (qp (e_2 (e_v rfl) (e_v rfl) (zwa h1))) (zq (zi (a_c (e_v rfl) (a_c (zi (a_c (e_v rfl) (a_c (qs (e_v rfl) e_k rfl) (a_c (e_v rfl) (a_c (e_v rfl) a_n)))) c3) (a_c (qs (e_v rfl) e_k rfl) (a_c (qs (e_v rfl) e_k rfl) a_n)))) c4))))))),by rw[z1m h1];exact r3,k3 _ b5 b6,zrl q.hh q.few b3 b7⟩
     · obtain⟨z',e⟩:∃z,p=xt.length+1+z:=⟨p-xt.length-1,by omega⟩
       obtain⟨d1,g,w2,S2,c3,r2,⟨b1,b2⟩,b3⟩:=zet f (p:=z') q.wt.at_ q.my (by omega) (by omega) ht q.ay (by omega);have r2:=r2.after q.wt;obtain⟨⟨k1,k2⟩,k3⟩:=p1 q.hh.sym q.h2 q.h1 b1 b2;obtain⟨d2,g2,w3,S3,c4,r3,b5,b6,b7⟩:=ku r2.wt.at_ q.mx r2.mm q.ht k2 k1 (by rw[zji];omega) q.ax.app r2.all;have r3:=r3.after r2.wt;exact⟨d2,g2,_,S3,ju rfl (ze (zk (qp (e_2 (e_v rfl) e_k hi))) (ze (zl (zi (a_c (e_v rfl) (a_c (e_v rfl) a_n)) c1)) (ze (zl (zi (a_c (qs (e_v rfl) e_k rfl) a_n) c2)) (ze (zk (qp (e_2 (e_v rfl) (e_v rfl) (z3q h1)))) (zq (zi (a_c (e_v rfl) (a_c (qs (e_v rfl) e_k rfl) (a_c (qs (e_v rfl) e_k rfl) (a_c (zi (a_c (e_v rfl) (a_c (qs (e_v rfl) e_k rfl) (a_c (zik (e_v rfl) (e_v rfl) e) (a_c (e_v rfl) a_n)))) c3) a_n)))) c4)))))),by rw[e,z1l];exact r3,k3 _ b5.sym fun u v=>(b6 v u).sym,zss q.hh q.few b3 b7⟩
theorem Top.eq{a b h h':Nat}(p:Top a b h)(q:Top a b h'):h'=h:=by obtain⟨p1,p2,p3⟩:=p;obtain⟨q1,q2,q3⟩:=q;omega
theorem z1g{p:Nat}(h:p<a.length):(a++t::b).set p x=a.set p x++t::b:=z6g _ _ h
theorem z1f:(a++t::b).set a.length x=a++x::b:=by rw[z70 _ _ (z45 _),Nat.sub_self];rfl
theorem z1e{q:Nat}:(a++t::b).set (a.length+1+q) x=a++t::b.set q x:=by rw[z70 _ _ (by omega),show a.length+1+q-a.length=q+1 by omega];rfl
theorem zzg{a b:List D}{xh yh h:Nat}(p:Top xh yh h)(h1:a.length<=2)(h2:b.length<=3*xh):(a++b++[t]).length<=3*h:=by have:=p.l;simp only[z41,List.length_cons,List.length_nil];omega
theorem zzf{a:List D}{h:Nat}(hh:0<h)(h1:a.length<=2):(a++[t]).length<=3*h:=by simp only[z41,List.length_cons,List.length_nil];omega
theorem zg5:∀(f:Nat) {d:D}{ts:List D}{h p:Nat}{n:Int}{S:Sto}{P:D->Prop},S[i]? = some (wd (yb k) n)->Mk k d ts h->ts.length<=2000->p<ts.length->Thing k x->All P d->h<=f ->
   ∃d' new S',zg7 f [.obj i,d,.int p,x] S=some (d',S')/\Res k i S n P (ts.set p x) d' h new S'/\new.length<=3*h
 |0,d,ts,h,p,n,S,P,hw,m,hl,hp,ht,al,hf=>absurd (zbp m (z56.mp (by omega))) (z82.mpr hf)
 | f+1,d,ts,h,p,n,S,P,hw,m,hl,hp,ht,al,hf=>by
   have h0:=zbp m (z56.mp (by omega));obtain⟨z,v,y,xt,yt,xh,yh,w1,S1,c1,q⟩:=zag m h0 hw al;have e1:=q.hts;subst e1;have c2:=q9 q.mx S1;have hx:=q.hh.l;have hy:=q.hh.r;simp only[z41,List.length_cons]at hl hp;by_cases h1:p<xt.length
   · obtain⟨d1,w2,S2,c3,r2,b3⟩:=zg5 f q.wt.at_ q.mx (by omega) h1 ht q.ax (by omega);have r2:=r2.after q.wt;obtain⟨d2,S3,g2,c4,r3,t3⟩:=y4 r2.wt.at_ r2.mm q.my q.ht q.h1 q.h2 (by rw[z5a];omega) r2.all q.ay.app;have r3:=r3.after r2.wt;have eg:=q.hh.eq t3;subst eg;exact⟨d2,_,S3,ju rfl (ze (zl (zi (a_c (e_v rfl) (a_c (e_v rfl) a_n)) c1)) (ze (zl (zi (a_c (qs (e_v rfl) e_k rfl) a_n) c2)) (qu (zy (qp (e_2 (e_v rfl) (e_v rfl) (zys h1))) (zq (qo (e_v rfl) (jc q.wt.at_) (xr _ _) (a_c (zi (a_c (e_v rfl) (a_c (qs (e_v rfl) e_k rfl) (a_c (e_v rfl) (a_c (e_v rfl) a_n)))) c3) (a_c (qs (e_v rfl) e_k rfl) (a_c (qs (e_v rfl) e_k rfl) a_n))) c4)))))),by rw[z1g h1];exact r3,zzg q.hh q.few b3⟩
   · by_cases h2:xt.length<p
     · obtain⟨z',e⟩:∃z,p=xt.length+1+z:=⟨p-xt.length-1,by omega⟩
       obtain⟨d1,w2,S2,c3,r2,b3⟩:=zg5 f (p:=z') q.wt.at_ q.my (by omega) (by omega) ht q.ay (by omega);have r2:=r2.after q.wt;obtain⟨d2,S3,g2,c4,r3,t3⟩:=y4 r2.wt.at_ q.mx r2.mm q.ht q.h1 q.h2 (by rw[z5a];omega) q.ax.app r2.all;have r3:=r3.after r2.wt;have eg:=q.hh.eq t3;subst eg;exact⟨d2,_,S3,ju rfl (ze (zl (zi (a_c (e_v rfl) (a_c (e_v rfl) a_n)) c1)) (ze (zl (zi (a_c (qs (e_v rfl) e_k rfl) a_n) c2)) (ze (zk (qp (e_2 (e_v rfl) (e_v rfl) (zuv h1)))) (qu (zy (qp (e_2 (e_v rfl) (e_v rfl) (z2l h2))) (zq (qo (e_v rfl) (jc q.wt.at_) (xr _ _) (a_c (qs (e_v rfl) e_k rfl) (a_c (qs (e_v rfl) e_k rfl) (a_c (zi (a_c (e_v rfl) (a_c (qs (e_v rfl) e_k rfl) (a_c (zik (e_v rfl) (e_v rfl) e) (a_c (e_v rfl) a_n)))) c3) a_n))) c4))))))),by rw[e,z1e];exact r3,zzg q.hh.sym q.few b3⟩
     · have e:p=xt.length:=by omega
       obtain⟨d2,S3,g2,c4,r3,t3⟩:=y4 q.wt.at_ q.mx q.my ht q.h1 q.h2 (by omega) q.ax q.ay;have r3:=r3.after q.wt;have eg:=q.hh.eq t3;subst eg;exact⟨d2,_,S3,ju rfl (ze (zl (zi (a_c (e_v rfl) (a_c (e_v rfl) a_n)) c1)) (ze (zl (zi (a_c (qs (e_v rfl) e_k rfl) a_n) c2)) (ze (zk (qp (e_2 (e_v rfl) (e_v rfl) (zuv h1)))) (ze (zk (qp (e_2 (e_v rfl) (e_v rfl) (z0t h2)))) (zq (qo (e_v rfl) (jc q.wt.at_) (xr _ _) (a_c (qs (e_v rfl) e_k rfl) (a_c (e_v rfl) (a_c (qs (e_v rfl) e_k rfl) a_n))) c4)))))),by rw[e,z1f];exact r3,zzf h0 q.few⟩
theorem zz1{p m:Nat}{f g w:E}(hp:p<m)(h0:f ev S=some (.int (0:Nat),S))(h1:g ev S=some (.int p,S))(h2:w ev S=some (.int m,S)):zbu zfv zai f g w ev S=some (.bl true,S):=by simp only[zbu,h0,h1,h2,Option.bind_some,zwa (z5t p),zys hp,Option.map_some]
theorem zcu{p m:Nat}(hp:p<m)(S:Sto):xk [.int p,.int m] S=some (.non,S):=zme rfl (zk (zwf (qp (zz1 hp e_k (e_v rfl) (e_v rfl)))))
theorem zr2{p:Nat}(m:Mk k d ts h)(hl:ts.length<=2000)(hp:ts[p]? = some x)(S:Sto):zwd [d,.int p] S=some (x,S) :=
 ju rfl (ze (jf (zi (a_c (e_v rfl) (a_c (zi (a_c (e_v rfl) a_n) (q9 m S)) a_n)) (zcu (z4y.mp hp).1 S))) (zq (zi (a_c (e_v rfl) (a_c e_k (a_c (e_v rfl) a_n))) (za2 40 (b:=false) m (z5p (h15 m hl) (by decide)) hp S))))
theorem z0e(x:Nat):qb (.int x) (.int 1)=some (.int (x+1:Nat)):=rfl
theorem zxq{p:Nat}(hw:S[i]? = some (wd (yb k) n))(m:Mk k d ts h)(hl:ts.length<2000)(hp:p<=ts.length)(ht:Thing k x)(al:All P d) :
   ∃d' h' new S',zu3 [.obj i,d,.int p,x] S=some (d',S')/\Res k i S n P (ts.take p++x::ts.drop p) d' h' new S'/\new.length<=9*h+1:=by
 have h1:=h15 m (z6t hl);obtain⟨d',h',new,S1,c,r,_,b⟩:=zet 40 hw m hl hp ht al (by omega);exact⟨d',h',new,S1,ju rfl (ze (jf (zi (a_c (e_v rfl) (a_c (e_2 (zi (a_c (e_v rfl) a_n) (q9 m S)) e_k (z0e _)) a_n)) (zcu (Nat.lt_succ_of_le hp) S))) (ze (jf (zi (a_c (e_2 (zi (a_c (e_v rfl) a_n) (q9 m S)) e_k (z0e _)) a_n) (zgw hl S))) (zq (zi (a_c (e_v rfl) (a_c (e_v rfl) (a_c (e_v rfl) (a_c (e_v rfl) a_n)))) c)))),r,b⟩
theorem zx7{p:Nat}(hw:S[i]? = some (wd (yb k) n))(m:Mk k d ts h)(hl:ts.length<=2000)(hp:p<ts.length)(al:All P d) :
   ∃d' h' new S',zu4 [.obj i,d,.int p] S=some (d',S')/\Res k i S n P (ts.eraseIdx p) d' h' new S'/\new.length<=9*h+21:=by
 have h1:=h15 m hl;obtain⟨d',h',new,S1,c,r,_,b⟩:=zbm 40 hw m hl hp al (by omega);exact⟨d',h',new,S1,ju rfl (ze (jf (zi (a_c (e_v rfl) (a_c (zi (a_c (e_v rfl) a_n) (q9 m S)) a_n)) (zcu hp S))) (zq (zi (a_c (e_v rfl) (a_c (e_v rfl) (a_c (e_v rfl) a_n))) c))),r,b⟩
theorem zlj{p:Nat}(hw:S[i]? = some (wd (yb k) n))(m:Mk k d ts h)(hl:ts.length<=2000)(hp:p<ts.length)(ht:Thing k x)(al:All P d) :
   ∃d' new S',ze8 [.obj i,d,.int p,x] S=some (d',S')/\Res k i S n P (ts.set p x) d' h new S'/\new.length<=3*h:=by
 have h1:=h15 m hl;obtain⟨d',new,S1,c,r,b⟩:=zg5 40 hw m hl hp ht al (by omega);exact⟨d',new,S1,ju rfl (ze (jf (zi (a_c (e_v rfl) (a_c (zi (a_c (e_v rfl) a_n) (q9 m S)) a_n)) (zcu hp S))) (zq (zi (a_c (e_v rfl) (a_c (e_v rfl) (a_c (e_v rfl) (a_c (e_v rfl) a_n)))) c))),r,b⟩
theorem zzy{p:Nat}(hw:S[i]? = some (wd (yb k) n))(m:Mk k d ts h)(hl:ts.length<=2000)(hp:p<=ts.length)(al:All P d) :
   ∃x y xh yh new S',zu5 [.obj i,d,.int p] S=some (.tup [x,y],S')/\Cut k i S n P (ts.take p) (ts.drop p) h x y xh yh new S':=by
 have h1:=h15 m hl;obtain⟨x,y,xh,yh,new,S1,c,r⟩:=y7 40 hw m hl hp al (by omega);exact⟨x,y,xh,yh,new,S1,ju rfl (ze (jf (zi (a_c (e_v rfl) (a_c (e_2 (zi (a_c (e_v rfl) a_n) (q9 m S)) e_k (z0e _)) a_n)) (zcu (Nat.lt_succ_of_le hp) S))) (zq (zi (a_c (e_v rfl) (a_c (e_v rfl) (a_c (e_v rfl) a_n))) c))),r⟩
theorem zl2(hw:S[i]? = some (wd (yb k) n))(ml:Mk k l lt lh)(mr:Mk k r rt rh)(hn:lt.length+rt.length<=2000)(al:All P l)(ar:All P r):∃d h new S',zos [.obj i,l,r] S=some (d,S')/\Res k i S n P (lt++rt) d h new S'/\new.length<=9*rh+9*max lh rh+10:=by obtain⟨d,h,new,S1,c,r,b⟩:=zog hw ml mr hn al ar;exact⟨d,h,new,S1,ju rfl (ze (jf (zi (a_c (e_2 (zi (a_c (e_v rfl) a_n) (q9 ml S)) (zi (a_c (e_v rfl) a_n) (q9 mr S)) (add_int _ _)) a_n) (zgw hn S))) (zq (zi (a_c (e_v rfl) (a_c (e_v rfl) (a_c (e_v rfl) a_n))) c))),r,b⟩
theorem zh3{q j:Nat}{v:E}{us:List D}(he:ev[q]? = some (some (.obj j)))(hj:S[j]? = some (.lst us))(hv:v ev S=some (x,S))(hl:us.length<16777216):kr (eV q) v ev S=some (.nx ev,S.set j (.lst (us++[x]))):=by have hz:sizeLine=16777216:=z55;simp only[kr,e_v he,Option.bind_some,hj,hv,hz,z5o hl]
theorem ze7:∀(f:Nat) {d:D}{ts:List D}{h j:Nat}{b:Bool}{acc:List D}{S:Sto},Mk k d ts h->h<f->S[j]? = some (.lst acc)->acc.length+ts.length<16777216->zeg f [d,.bl b,.obj j] S=some (.non,S.set j (.lst (acc++ord b ts)))
 |0,_,_,_,_,_,_,_,_,hf,_,_=>absurd hf (z8d _)
 | f+1,d,ts,h,j,b,acc,S,m,hf,hj,hl=>by
   rcases zkb m with⟨rfl,rfl,rfl⟩ | ⟨⟨xs,ed⟩,u0,r0,e0⟩
   · rw[show ord b ([]:List D)=[] by cases b<;>rfl,z5y];have:S.set j (.lst acc)=S:=by obtain⟨hj',ej⟩:=z4y.mp hj;rw[<-ej];exact List.set_getElem_self hj'
     rw[this];exact ju rfl (qu (zy (qp (e_2 (e_v rfl) e_k rfl)) rfl))
   · obtain⟨u,t,y,c,xt,yt,xh,yh,c1,s⟩:=znd m (zbp m (by rw[e0];simp)) b S;have hi:zev d .non=some (.bl false):=by rw[ed];rfl
     have hu:=s.hu;have hlen:ts.length=xt.length+(yt.length+1):=by have:=z6w List.length hu;rw[zah,z41,List.length_cons,zah,zah]at this;exact this
     have hx:=s.hx;have hy:=s.hy;have lx:=zah c xt;have ly:=zah c yt;have c2:=ze7 f (b:=c) (S:=S) s.mx (by omega) hj (by omega);have j2:(S.set j (.lst (acc++ord c xt)))[j]? = some (.lst (acc++ord c xt)):=kn hj;have j3:((S.set j (.lst (acc++ord c xt))).set j (.lst (acc++ord c xt++[t])))[j]? = some (.lst (acc++ord c xt++[t])):=kn j2;have c3:=ze7 f (b:=c) s.my (by omega) j3 (by simp only[z41,List.length_cons,List.length_nil];omega);have e5:((S.set j (.lst (acc++ord c xt))).set j (.lst (acc++ord c xt++[t]))).set j (.lst (acc++ord c xt++[t]++ord c yt))=S.set j (.lst (acc++ord b ts)):=by rw[z8i,z8i,show acc++ord c xt++[t]++ord c yt=acc++ord b ts by rw[hu];simp]
     rw[e5]at c3;exact zme rfl (ze (zk (qp (e_2 (e_v rfl) e_k hi))) (ze (zl (zi (a_c (e_v rfl) (a_c (e_v rfl) a_n)) c1)) (ze (jf (zi (a_c (qs (e_v rfl) e_k rfl) (a_c (qs (e_v rfl) e_k rfl) (a_c (e_v rfl) a_n))) c2)) (ze (zh3 rfl j2 (qs (e_v rfl) e_k rfl) (by simp only[z41];omega)) (jf (zi (a_c (qs (e_v rfl) e_k rfl) (a_c (qs (e_v rfl) e_k rfl) (a_c (e_v rfl) a_n))) c3))))))
def SB(S:Sto):Prop:=∀m∈S,zhy S.length m=true
theorem zb1{m:Nat}(hx:Thing k x):bnd m x=true:=by
 cases zp6 hx with
 |non=>rfl
 |int i=>rfl
 |str z=>rfl
 |pair a b=>rfl
theorem zao{m:Nat}:∀{ts:List D},(∀x∈ts,Thing k x)->bndL m ts=true
 | [],_=>rfl
 | t::ts,h=>by unfold bndL;rw[zb1 (h t (z5w ..)),zao fun x hx=>h x (z5d _ hx)];rfl
theorem zr4(m:Nat)(n:Int):zhy m (wd (yb k) n)=true:=by
 unfold wd zhy yb;by_cases hk:k=0
 · simp[hk,bndL,bnd]
 · simp[hk,bndL,bnd]
theorem zh0(m:Mk k d ts h)(hl:ts.length<=2000)(hb:SB S):za8 [d] S=some (.lst ts,S):=by
 have h1:=h15 m hl;have c1:=ze7 40 (b:=false) (S:=S++[.lst []]) (j:=S.length) (acc:=[]) m (by omega) (zof S _) (by simp only[List.length_nil];omega);have e1:(S++[MO.lst []]).set S.length (.lst ([]++ord false ts))=S++[.lst ts]:=by simp[ord]
 rw[e1]at c1;have c2:zu 2 1 zfj [d] S=some (.obj S.length,S++[.lst ts]):=ju rfl (ze (zl (zgg a_n (z5t _))) (ze (jf (zi (a_c (e_v rfl) (a_c e_k (a_c (e_v rfl) a_n))) c1)) (zq (e_v rfl))));have e2:(S++[MO.lst ts]).take S.length=S:=z85;have e3:S.all (zhy S.length)=true:=z51.mpr hb;unfold za8 frz;rw[c2];simp only[Option.bind_some,e2,e3,z64,z6k,z69,zof,zao m.things]
end Pg
namespace Pg
open PySem L2 F Mt
variable {k:Nat} [Kd k] {d l r t x y:D}{ts lt rt:List D}{h lh rh i:Nat}{n:Int}{S S0 S1:Sto}{ev e:Ev}{P Q:D->Prop}{a b new:List D}
theorem zj9(m:Mk k d ts h):All (fun _=>True) d:=by
 induction m with
 |non=>exact .non
 |node _ _ _ _ _ il ir=>exact .node trivial il ir
theorem zxi(h:∀z∈lt,Thing k z):∀z∈lt.reverse,Thing k z:=fun z hz=>h z (z72.mp hz)
theorem sx(m d v:Nat):HT.sIx m d (some (v:Int))=min v m:=by show(if(v:Int)<0 then ((v:Int)+(m:Int)).toNat else min (v:Int).toNat m)=min v m;rw[z5l (by omega),Int.toNat_natCast]
theorem zm4(e:Nat):zye (.lst ts) none (some (e:Int))=some (.lst (ts.take e)):=by show some (D.lst ((ts.drop 0).take (HT.sIx ts.length ts.length (some (e:Int))-0)))=_;rw[sx,List.drop_zero,Nat.sub_zero,<-List.take_take,List.take_length]
theorem zdf{s:Nat}(hs:s<=ts.length):zye (.lst ts) (some (s:Int)) none=some (.lst (ts.drop s)):=by show some (D.lst ((ts.drop (HT.sIx ts.length 0 (some (s:Int)))).take (ts.length-HT.sIx ts.length 0 (some (s:Int)))))=_;rw[sx,z8e hs,List.take_of_length_le (by rw[z5r];omega)]
theorem zw8{s e:Nat}(hs:s<=e)(he:e<=ts.length):zye (.lst ts) (some (s:Int)) (some (e:Int))=some (.lst ((ts.take e).drop s)):=by show some (D.lst ((ts.drop (HT.sIx ts.length 0 (some (s:Int)))).take (HT.sIx ts.length ts.length (some (e:Int))-HT.sIx ts.length 0 (some (s:Int)))))=_;rw[sx,sx,z8e (z5p hs he),z8e he,List.drop_take]
theorem zey(m:Int)(c:Nat):∃e:Nat,e<=c/\jr (.int m) (.int ((c:Int)+1))=some (.int e):=by have x0:=z6d m (show(c:Int)+1≠0 by omega);have x1:=z54 m (show(0:Int)<(c:Int)+1 by omega);exact⟨(m%((c:Int)+1)).toNat,by omega,by rw[zcw (by omega),show(((m%((c:Int)+1)).toNat:Nat):Int)=m%((c:Int)+1) by omega]⟩
theorem zex(m:Int){c:Nat}(hc:0<c):∃e:Nat,e<c/\jr (.int m) (.int (c:Int))=some (.int e):=by have x0:=z6d m (show(c:Int)≠0 by omega);have x1:=z54 m (show(0:Int)<(c:Int) by omega);exact⟨(m%(c:Int)).toNat,by omega,by rw[zcw (by omega),show(((m%(c:Int)).toNat:Nat):Int)=m%(c:Int) by omega]⟩
theorem rng{c:Nat}(h:c<=10000):∀x∈j5 0 c,∃i:Int,x=.int i/\0<=i/\i<10000:=fun x hx=>by unfold j5 at hx;obtain⟨j,hj,rfl⟩:=z80.mp hx;have:=List.mem_range.mp hj;exact⟨_,rfl,by omega,by omega⟩
theorem zni(c:Nat):(j5 0 c).length=c:=by simp[j5]
end Pg
namespace Pg
open PySem L2 F Mt
variable {k:Nat} [Kd k] {d l r t x y:D}{ts us lt rt:List D}{h lh rh i:Nat}{n:Int}{S S0 S1:Sto}{ev e:Ev}{P Q:D->Prop}
theorem zxc(ns:List Int){q:Int}(h0:0<=q)(h1:q<ns.length):∃v:Int,atI (ns.map D.int) q=some (.int v):=by
 have hi:q.toNat<ns.length:=by omega
 have e2:(ns.map D.int)[q.toNat]? = some (.int ns[q.toNat]):=by rw[z50,z44 hi];rfl
 have e3:=zbf e2;rw[show((q.toNat:Nat):Int)=q by omega]at e3;exact⟨_,e3⟩
theorem p30:zqy (.int 10) (.int 30)=some (.int (10^30)):=by
 have:z0o 10 30=some (10^30):=by unfold z0o;rw[z5o (by decide)];rfl
 simp only[zqy,F.opI,this];rfl
theorem zpd(ns:List Int)(hn:ns.length<=63){q:Int}(h0:0<=q)(h1:q<=1000000):∃m:Int,0<=m/\m<999999937/\∀S,yq [.lst (ns.map D.int),.int q] S=some (.int m,S):=by
 have len:∀S:Sto,y9 S [.lst (ns.map D.int)]=some (.int (ns.length:Int)):=fun S=>by simp[y9]
 have first:∀(S:Sto),qv 2 (e2 qb (e2 za4 (e2 za4 (eV 1) (eV 1)) (eK (.int 7919))) (eK (.int 17))) [some (.lst (ns.map D.int)),some (.int q),none] S=some (.nx [some (.lst (ns.map D.int)),some (.int q),some (.int (q*q*7919+17))],S):=fun S=>
   zl (e_2 (e_2 (e_2 (e_v rfl) (e_v rfl) (zn5 (by omega))) e_k (zkt (by decide))) e_k (add_int _ _))
 have last:∀(c:Int) (S:Sto),qz (e2 jr (e2 za4 (e2 jr (e2 qb (e2 za4 (eV 2) (eK (.int 48271))) (e2 za4 (eV 1) (eK (.int 69621)))) (eK (.int 2147483647))) (e2 qb (e2 jr (eV 2) (eK (.int 65521))) (eK (.int 3)))) (eK (.int 999999937))) [some (.lst (ns.map D.int)),some (.int q),some (.int c)] S=some (.rt (.int ((c*48271+q*69621)%2147483647*(c%65521+3)%999999937)),S):=fun c S=>by have y0:=z6d (c*48271+q*69621) (show(2147483647:Int)≠0 by decide);have y1:=z54 (c*48271+q*69621) (show(0:Int)<2147483647 by decide);exact zq (e_2 (e_2 (e_2 (e_2 (e_2 (e_v rfl) e_k (zkt (by decide))) (e_2 (e_v rfl) e_k (zkt (by decide))) (add_int _ _)) e_k (zcw (by decide))) (e_2 (e_2 (e_v rfl) e_k (zcw (by decide))) e_k (add_int _ _)) (zn5 (by omega))) e_k (zcw (by decide)))
 by_cases z:0<(ns.length:Int)
 · have x0:=z6d q (show(ns.length:Int)≠0 by omega);have x1:=z54 q z;obtain⟨v,hv⟩:=zxc ns x0 x1;refine⟨_,z6d _ (by decide),z54 _ (by decide),fun S=>ju rfl (ze (first S) (ze (zy (qp (e_2 (e_a (a_c (e_v rfl) a_n) (len _)) e_k (show zfq (.int (ns.length:Int)) (.int 0)=some (.bl true) by simp[zfq,opIB];omega)))
     (zl (e_2 (e_2 (qs (e_v rfl) (e_2 (e_v rfl) (e_a (a_c (e_v rfl) a_n) (len _)) (zcw z)) hv) (e_2 e_k e_k p30) (zcw (by decide))) (e_2 (e_2 (e_v rfl) (e_a (a_c (e_v rfl) a_n) (len _)) (zhh ⟨z,by omega⟩)) e_k (zkt (by decide))) (add_int _ _)))) (last _ S)))⟩
 · exact⟨_,z6d _ (by decide),z54 _ (by decide),fun S=>ju rfl (ze (first S) (ze (zk (qp (e_2 (e_a (a_c (e_v rfl) a_n) (len _)) e_k (show zfq (.int (ns.length:Int)) (.int 0)=some (.bl false) from(by show some (D.bl (decide ((0:Int)<(ns.length:Int))))=_;rw[z47 z]))))) (last _ S)))⟩
theorem zlm{q j:Nat}{v:E}{us vs:List D}(he:ev[q]? = some (some (.obj j)))(hj:S[j]? = some (.lst vs))(hv:v ev S=some (x,S1))(h1:S1[j]? = some (.lst us))(hl:us.length<16777216):kr (eV q) v ev S=some (.nx ev,S1.set j (.lst (us++[x]))):=by have hz:sizeLine=16777216:=z55;simp only[kr,e_v he,Option.bind_some,hj,hv,h1,hz,z5o hl]
theorem ztn{i:Nat}{f:E}{b:C}{n:Int}{o:Out}{S2:Sto}(h:f ev S=some (.int n,S1))(h0:0<=n)(h1:n<1000000)(q:zcx i b (j5 0 n.toNat) ev S1=some (o,S2)):zqa i f b ev S=some (o,S2):=by
 have cnd:-(2^62)<=n/\n<2^62:=by omega
 simp only[zqa,h,Option.bind_some,z5o cnd,q]
theorem zto{i:Nat}{f:E}{b:C}{ds:List D}{o:Out}{S2:Sto}(h:f ev S=some (.lst ds,S1))(q:zcx i b ds ev S1=some (o,S2)):zqb i f b ev S=some (o,S2):=by simp only[zqb,h,Option.bind_some,q]
theorem zoc{i:Nat}{b:C}{d:D}{ds:List D}{e1:Ev}{o:Out}{S2:Sto}(h:b (ev.set i (some d)) S=some (.nx e1,S1))(q:zcx i b ds e1 S1=some (o,S2)):zcx i b (d::ds) ev S=some (o,S2):=by unfold zcx;rw[h];exact q
theorem zmx{i j:Nat}{f:E}{x y:D}(h:f ev S=some (.tup [x,y],S1)):zmj [i,j] f ev S=some (.nx ((ev.set i (some x)).set j (some y)),S1):=by simp[zmj,h,zaz]
theorem zf4(lo:Int)(m:Nat):j5 lo (m+1)=.int lo::j5 (lo+1) m:=by
 unfold j5;rw[List.range_succ_eq_map,z5v,List.map_map];congr 1
 · simp
 · refine List.map_congr_left fun z _=>?_;simp;omega
end Pg
namespace Pg
open PySem L2 F Mt
variable {k:Nat}{d l r t:D}{ts lt rt:List D}{h lh rh:Nat}{S S1 S2:Sto}{ev e:Ev}
theorem zf5{u:B}{a b:R}(h:u ev S=some (true,S1)):rIf u a b ev S=a ev S1:=by simp[rIf,h]
theorem zse{u:B}{a b:R}(h:u ev S=some (false,S1)):rIf u a b ev S=b ev S1:=by simp[rIf,h]
theorem znn{c:C}{q:R}(h:c ev S=some (.nx e,S1)):zt9 c q ev S=q e S1:=by simp[zt9,h]
theorem zt8{a b:R}{x:Str×Sto}(h:a ev S=some x):rOr a b ev S=some x:=by simp[rOr,h]
theorem zlq{a b:R}(h:a ev S=none):rOr a b ev S=b ev S:=by simp[rOr,h]
theorem zdu{c m:Str}{g:GR}{f:E}{a:As}{i:Nat}{fs:List (Str×D)}{ds:List D}(h:f ev S=some (.obj i,S1))(hi:yo c S1 (.obj i)=some (i,fs))(hm:fs.lookup m=none)(ha:a ev S1=some (ds,S2)):zch c m g f a ev S=g (.obj i::ds) S2:=by simp[zch,h,hi,hm,ha]
theorem zjh{c:Str}{a:As}{ds:List D}(h:a ev S=some (ds,S1))(hl:ds.length<=16777216):zf6 c a ev S=some (c,S1):=by have hz:sizeLine=16777216:=z55;simp[zf6,h,hz,hl]
theorem zes{N n:Nat}{q:R}{ds:List D}(hl:ds.length=n):zfn N n q ds S=q (ds.map some++List.replicate (N-ds.length) none) S:=by simp[zfn,hl]
theorem zve{m:Nat}(h:m<10000):z3t (.int m)=some (.str (toString (m:Int)))/\(Str.ofString (toString (m:Int))).length<=20:=by
 have hb:(m:Int).natAbs<2^19:=by simp;omega
 have hlog:(m:Int).natAbs.log2<19:=by
   by_cases h0:(m:Int).natAbs=0
   · rw[h0];decide
   · exact(Nat.log2_lt h0).mpr hb
 refine⟨?_,?_⟩
 · show(if(m:Int).natAbs.log2<1920 then some (D.str (toString (m:Int)))else none)=_;rw[z5o (by omega)]
 · have:=int_text_length_le (a:=(m:Int)) (k:=19) (by decide) hlog;rw[ofString_length];omega
theorem zmy{c:C}{q:R}{f:Str->Option (Option Nat×C)}(h:c ev S=some (.nx e,S1)):zgt c q f ev S=some (.nx e,S1):=by simp[zgt,h]
theorem ztl{c d:C}{q:R}{f:Str->Option (Option Nat×C)}{cls:Str}{i:Nat}(h:c ev S=none)(hr:q ev S=some (cls,S1))(hf:f cls=some (some i,d))(ha:d (ev.set i (some (.obj S1.length))) (S1++[zoz cls S1.length])=some (.nx e,S2)):zgt c q f ev S=some (.nx (e.set i none),S2):=by unfold zgt;rw[h];simp only[hr,Option.bind_some,zpw,hf,ha]
theorem ztk{c d:C}{q:R}{f:Str->Option (Option Nat×C)}{cls:Str}(h:c ev S=none)(hr:q ev S=some (cls,S1))(hf:f cls=some (none,d))(ha:d ev S1=some (.nx e,S2)):zgt c q f ev S=some (.nx e,S2):=by unfold zgt;rw[h];simp only[hr,Option.bind_some,zpw,hf,ha]
theorem zzr{f:E}{c n:Str}{i j:Nat}{d:D}(h:f ev S=some (.obj i,S1))(hi:S1[i]? = some (.xc c j))(hj:S1[j]? = some (.xd n d)):zo5 c n f ev S=some (d,S1):=by simp[zo5,h,hi,hj]
theorem zea{c:B}{b:C}(h:c ev S=some (true,S1)):sIf c zbn b ev S=none:=by simp[sIf,h,zbn]
theorem zgj{N n:Nat}{c:C}{ds:List D}(h:c (ds.map some++List.replicate (N-ds.length) none) S=none):zu N n c ds S=none:=by simp[zu,h]
theorem zb2{a b:C}(h:a ev S=none):zt a b ev S=none:=by simp[zt,h]
theorem zcs{a b:C}(h:a ev S=some (.nx e,S1))(q:b e S1=none):zt a b ev S=none:=by simp[zt,h,q]
theorem zcr{f:E}{i:Nat}(h:f ev S=none):qv i f ev S=none:=by simp[qv,h]
theorem zaj{c m:Str}{g:G}{f:E}{a:As}{i:Nat}{fs:List (Str×D)}{ds:List D}(h:f ev S=some (.obj i,S1))(hi:yo c S1 (.obj i)=some (i,fs))(hm:fs.lookup m=none)(ha:a ev S1=some (ds,S2))(q:g (.obj i::ds) S2=none) :
   zw c m g f a ev S=none:=by simp[zw,h,hi,hm,ha,q]
end Pg
namespace Pg
open PySem L2 F Mt
variable {k:Nat} [Kd k] {d d0 l r t x y:D}{ts us lt rt:List D}{h lh rh i:Nat}{n:Int}{S S0 S1:Sto}{ev e:Ev}{P Q:D->Prop}
instance:Kd 0:=⟨rfl⟩
theorem zkf(i:Int):Thing 0 (.int i):=.inl ⟨i,rfl⟩
theorem zwm{z:Str}(hz:z.length<=8):Thing 0 (.str z):=.inr ⟨z,rfl,hz⟩
theorem zfc(w c:Int):ki (.int w) (.int c)=some (.bl (decide (w=c))):=by rw[zo1];rfl
theorem zq6(w c:Int):zai (.int w) (.int c)=some (.bl (decide (w<c))):=rfl
theorem z3r(w c:Int):zfq (.int w) (.int c)=some (.bl (decide (c<w))):=rfl
theorem zdi{f:E}(h:f ev S=some (.lst ts,S1)):yi (aC f aN) ev S=some (.lst ts,S1):=by simp[yi,aC,aN,h]
theorem zod{f:E}(h:f ev S=some (.obj i,S1))(hi:S1[i]? = some (.lst ts)):yi (aC f aN) ev S=some (.lst ts,S1):=by simp[yi,aC,aN,h,hi]
theorem zoe{f:E}(h:f ev S=some (.lst ts,S1)):zc8 f ev S=some (.lst ts.reverse,S1):=by simp[zc8,h]
def sfs(d:D)(j:Nat):List (Str×D):=[("wood",.obj 0),("held",d),("done",.obj j)]
def shf(d:D)(j:Nat):MO:=.ins "Shelf" (sfs d j)
variable {j:Nat}{dl:List D}{R:Sto}
theorem qx(h:S[i]? = some (shf d j)):yo "Shelf" S (.obj i)=some (i,sfs d j):=by simp[yo,h,shf]
theorem hw1:¬ (("wood":Str)="held"):=by decide +kernel
theorem hw2:¬ (("wood":Str)="done"):=by decide +kernel
theorem hw3:¬ (("held":Str)="done"):=by decide +kernel
theorem hb1:(("held":Str)=="wood")=false:=by decide +kernel
theorem hb2:(("done":Str)=="wood")=false:=by decide +kernel
theorem hb3:(("done":Str)=="held")=false:=by decide +kernel
theorem ztw:(sfs d j).lookup ("wood":Str)=some (.obj 0):=by simp[sfs,List.lookup]
theorem zty:(sfs d j).lookup ("held":Str)=some d:=by simp[sfs,List.lookup,hb1]
theorem zjf:(sfs d j).lookup ("done":Str)=some (.obj j):=by simp[sfs,List.lookup,hb2,hb3]
theorem zep{m:Str}(h1:(m=="wood")=false)(h2:(m=="held")=false)(h3:(m=="done")=false):(sfs d j).lookup m=none:=by simp[sfs,List.lookup,h1,h2,h3]
theorem zm6:(sfs d j).lookup ("make":Str)=none:=zep (by decide +kernel) (by decide +kernel) (by decide +kernel)
theorem zm8:(sfs d j).lookup ("hold":Str)=none:=zep (by decide +kernel) (by decide +kernel) (by decide +kernel)
theorem zw7:(sfs d j).lookup ("out":Str)=none:=zep (by decide +kernel) (by decide +kernel) (by decide +kernel)
theorem ztx:(sfs d j).lookup ("swap":Str)=none:=zep (by decide +kernel) (by decide +kernel) (by decide +kernel)
theorem zw6:(sfs d j).lookup ("put":Str)=none:=zep (by decide +kernel) (by decide +kernel) (by decide +kernel)
theorem zm3:(sfs d j).lookup ("turned":Str)=none:=zep (by decide +kernel) (by decide +kernel) (by decide +kernel)
theorem zm7:(sfs d j).lookup ("laid":Str)=none:=zep (by decide +kernel) (by decide +kernel) (by decide +kernel)
theorem zsa:(sfs d j).lookup ("cut":Str)=none:=zep (by decide +kernel) (by decide +kernel) (by decide +kernel)
theorem ztz:(sfs d j).lookup ("back":Str)=none:=zep (by decide +kernel) (by decide +kernel) (by decide +kernel)
theorem zki:(sfs d j).lookup ("deeds":Str)=none:=zep (by decide +kernel) (by decide +kernel) (by decide +kernel)
theorem zm5:(sfs d j).lookup ("things":Str)=none:=zep (by decide +kernel) (by decide +kernel) (by decide +kernel)
theorem zql:zci "held" x (sfs d j)=sfs x j:=by simp[sfs,zci,hw1]
theorem zc6{q:Nat}(he:ev[q]? = some (some (.obj i)))(h:S[i]? = some (shf d j)):yj "Shelf" "held" (eV q) ev S=some (d,S):=zb8 (e_v he) (qx h) zty
theorem zfd{q:Nat}(he:ev[q]? = some (some (.obj i)))(h:S[i]? = some (shf d j)):yj "Shelf" "wood" (eV q) ev S=some (.obj 0,S):=zb8 (e_v he) (qx h) ztw
theorem zje{q:Nat}{v:E}(he:ev[q]? = some (some (.obj i)))(hv:v ev S=some (x,S1))(h:S1[i]? = some (shf d j)):jm "Shelf" "held" (eV q) v ev S=some (.nx ev,S1.set i (shf x j)):=by
 have hl:(sfs d j).length<1000:=show 3<1000 by decide
 simp only[jm,hv,Option.bind_some,e_v he,qx h,z5o hl,zql];rfl
theorem zob(h:S[i]? = some (shf d j)):qg [.obj i] S=some (d,S):=ju rfl (zq (zc6 rfl h))
theorem zia{q:Nat}(he:ev[q]? = some (some (.obj i)))(h:S[i]? = some (shf d j)):zw "Shelf" "make" qg (eV q) aN ev S=some (d,S):=qo (e_v he) (qx h) zm6 a_n (zob h)
theorem zp3{q:Nat}{us:List D}{g:Nat}(he:ev[q]? = some (some (.obj i)))(hs:S[i]? = some (shf d j))(m:Mk 0 d us g)(hl:us.length<=2000)(sb:SB S):zw "Shelf" "things" yz (eV q) aN ev S=some (.lst us,S) :=
 qo (e_v he) (qx hs) zm5 a_n (ju rfl (zq (zi (a_c (zc6 rfl hs) a_n) (zh0 m hl sb))))
theorem zvs{q:Nat}(he:ev[q]? = some (some (.obj i)))(hs:S[i]? = some (shf d j))(hj:S[j]? = some (.lst dl)):zw "Shelf" "deeds" je (eV q) aN ev S=some (.lst dl,S) :=
 qo (e_v he) (qx hs) zki a_n (ju rfl (zq (zod (zb8 (e_v rfl) (qx hs) zjf) hj)))
theorem zln{f v:E}{us:List D}(hf:f ev S=some (.obj j,S))(hj:S[j]? = some (.lst us))(hv:v ev S=some (x,S))(hl:us.length<16777216):kr f v ev S=some (.nx ev,S.set j (.lst (us++[x]))):=by have hz:sizeLine=16777216:=z55;simp only[kr,hf,Option.bind_some,hj,hv,hz,z5o hl]
theorem zy4(S:Sto)(x:D){o:Out}{S':Sto}{c:C}(h:c [some (.obj S.length),some (.obj 0),some x] (S++[shf .non (S.length+1),.lst []])=some (o,S')) :
   zt (jm "Shelf" "wood" (eV 0) (eV 1)) (zt (jm "Shelf" "held" (eV 0) (eK .non)) (zt (jm "Shelf" "done" (eV 0) (zc7 aN)) c)) [some (.obj S.length),some (.obj 0),some x] (S++[.ins "Shelf" []])=some (o,S'):=by
 have a1:jm "Shelf" "wood" (eV 0) (eV 1) [some (.obj S.length),some (.obj 0),some x] (S++[.ins "Shelf" []])=some (.nx [some (.obj S.length),some (.obj 0),some x],S++[.ins "Shelf" [("wood",.obj 0)]]):=by simp[jm,eV,yo,zci]
 have a2:jm "Shelf" "held" (eV 0) (eK .non) [some (.obj S.length),some (.obj 0),some x] (S++[.ins "Shelf" [("wood",.obj 0)]])=some (.nx [some (.obj S.length),some (.obj 0),some x],S++[.ins "Shelf" [("wood",.obj 0),("held",.non)]]):=by simp[jm,eV,eK,yo,zci,hw1]
 have a3:jm "Shelf" "done" (eV 0) (zc7 aN) [some (.obj S.length),some (.obj 0),some x] (S++[.ins "Shelf" [("wood",.obj 0),("held",.non)]])=some (.nx [some (.obj S.length),some (.obj 0),some x],S++[shf .non (S.length+1),.lst []]):=by
   have e1:zc7 aN [some (.obj S.length),some (.obj 0),some x] (S++[.ins "Shelf" [("wood",.obj 0),("held",.non)]])=some (.obj (S.length+1),S++[.ins "Shelf" [("wood",.obj 0),("held",.non)],.lst []]):=by have:=zgg (a:=aN) (ev:=[some (.obj S.length),some (.obj 0),some x]) (S:=S++[.ins "Shelf" [("wood",.obj 0),("held",.non)]]) a_n (z5t _);simpa using this
   simp[jm,e1,eV,yo,zci,hw2,hw3,shf,sfs]
 exact ze a1 (ze a2 (ze a3 h))
theorem zt1{f:E}(hf:f ev S=some (.obj 0,S)):zbe "Shelf" (zpx 1 z9) (aC f aN) ev S=some (.obj S.length,S++[shf .non (S.length+1),.lst []]):=by
 have c:zpx 1 z9 [.obj S.length,.obj 0] (S++[.ins "Shelf" []])=some (.non,S++[shf .non (S.length+1),.lst []]):=by show z9 [.obj S.length,.obj 0,.non] (S++[.ins "Shelf" []])=_;exact zme rfl (zy4 S .non (zk (qp (e_2 (e_v rfl) e_k rfl))))
 simp only[zbe,a_c hf a_n,Option.bind_some,c]
theorem zt0{P:D->Prop}{f g:E}(hf:f ev S=some (.obj 0,S))(hg:g ev S=some (.lst ts,S))(hw:S[0]? = some (wd (yb 0) n))(h1:∀x∈ts,Thing 0 x)(hl:ts.length<=2000):∃d h new T,zbe "Shelf" z9 (aC f (aC g aN)) ev S=some (.obj S.length,T.set S.length (shf d (S.length+1)))/\Res 0 0 (S++[shf .non (S.length+1),.lst []]) n P ts d h new T:=by
 have hlt:0<S.length:=(z4y.mp hw).1;have hw':(S++[shf .non (S.length+1),.lst []])[0]? = some (wd (yb 0) n):=by rw[z5h hlt];exact hw
 obtain⟨d,h,new,T,c,rr⟩:=zl0 (k:=0) (P:=P) hw' h1 hl;refine⟨d,h,new,T,?_,rr⟩;have hT:T[S.length]? = some (shf .non (S.length+1)):=by rw[rr.wt.ne _ (by omega)];simp
 have ci:z9 [.obj S.length,.obj 0,.lst ts] (S++[.ins "Shelf" []])=some (.non,T.set S.length (shf d (S.length+1))) :=
   zme rfl (zy4 S (.lst ts) (zy (qp (e_2 (e_v rfl) e_k rfl)) (zje rfl (zi (a_c (e_v rfl) (a_c (e_v rfl) a_n)) c) hT)))
 simp only[zbe,a_c hf (a_c hg a_n),Option.bind_some,ci]
theorem zp7{q p v:Nat}{xs:List D}{c:Nat}(he:ev[q]? = some (some (.obj i)))(hp:ev[p]? = some (some (.int c)))(hv:ev[v]? = some (some x))(hi:S[i]? = some (.lst xs))(hc:c<xs.length):zng (eV q) (eV p) (eV v) ev S=some (.nx ev,S.set i (.lst (xs.set c x))):=by
 have e1:ixN xs.length (c:Int)=some c:=by unfold ixN;rw[z5o (by omega),z5o (by omega),Int.toNat_natCast]
 simp only[zng,e_v hv,e_v he,e_v hp,Option.bind_some,hi,e1,Option.map_some]
end Pg
namespace Pg
open PySem L2 F Mt
variable {d d0 l r t x y o:D}{ts us rt dl ks e:List D}{h i j g rh a c:Nat}{n:Int}{S S0 S1 T:Sto}{ev:Ev}
def Up(T:Sto)(i j:Nat)(n:Int)(d:D)(dl:List D):Sto:=((T.set 0 (wd (yb 0) n)).set i (shf d j)).set j (.lst dl)
structure Lk (T:Sto) (i j:Nat) (n:Int) (d:D) (dl:List D):Prop where
 w:T[0]? = some (wd (yb 0) n)
 s:T[i]? = some (shf d j)
 l:T[j]? = some (.lst dl)
 i2:i≠0
 j2:j≠0
 ij:i≠j
theorem Lk.st(K:Lk T i j n d dl)(x:MO)(a2:a≠0)(ai:a≠i)(aj:a≠j):Lk (T.set a x) i j n d dl :=
 ⟨by rw[z43 a2];exact K.w,by rw[z43 ai];exact K.s,by rw[z43 aj];exact K.l,K.i2,K.j2,K.ij⟩
theorem Lk.wd_(K:Lk T i j n d dl)(n':Int):Lk (T.set 0 (wd (yb 0) n')) i j n' d dl :=
 ⟨kn K.w,by rw[z43 (z5x K.i2)];exact K.s,by rw[z43 (z5x K.j2)];exact K.l,K.i2,K.j2,K.ij⟩
theorem Lk.app(K:Lk T i j n d dl)(J:Sto):Lk (T++J) i j n d dl:=by
 have g:∀{q:Nat}{v:MO},T[q]? = some v->(T++J)[q]? = some v:=fun {q v} hq=>by rw[z5h (z4y.mp hq).1];exact hq
 exact⟨g K.w,g K.s,g K.l,K.i2,K.j2,K.ij⟩
theorem z02{q:Nat}(q2:q≠0)(qi:q≠i)(qj:q≠j):(Up T i j n d dl)[q]? = T[q]?:=by unfold Up;rw[z43 (z5x qj),z43 (z5x qi),z43 (z5x q2)]
theorem up_len:(Up T i j n d dl).length=T.length:=by unfold Up;simp only[z5a]
theorem Lk.up(K:Lk T i j n d dl)(n':Int)(d':D)(dl':List D):Lk (Up T i j n' d' dl') i j n' d' dl':=by
 have b1:=(z4y.mp K.w).1;have b2:=(z4y.mp K.s).1;have b3:=(z4y.mp K.l).1;unfold Up;refine⟨?_,?_,?_,K.i2,K.j2,K.ij⟩
 · rw[z43 K.j2,z43 K.i2,z5m b1]
 · rw[z43 (z5x K.ij),z5m (by rw[z5a];exact b2)]
 · rw[z5m (by simp only[z5a];exact b3)]
theorem zek{new:List D}{x:MO}(h:S[0]? = some x)(w:Wt 0 0 S n new T):T=S.set 0 (wd (yb 0) (n+new.length)):=by
 apply z8n;intro q;by_cases e:q=0
 · subst e;rw[kn h];exact w.at_
 · rw[z43 (z5x e)];exact w.ne q e
theorem zoo(K:Lk T i j n d dl)(hl:dl.length<16777216):jp [.obj i,x,y] T=some (.non,(T.set i (shf x j)).set j (.lst (dl++[y]))):=by
 have h2:(T.set i (shf x j))[i]? = some (shf x j):=kn K.s;have h3:(T.set i (shf x j))[j]? = some (.lst dl):=by rw[z43 K.ij];exact K.l
 exact zme rfl (ze (zje rfl (e_v rfl) K.s) (zln (zb8 (e_v rfl) (qx h2) zjf) h3 (e_v rfl) hl))
theorem zga{u v:E}{n':Int}(he:ev[0]? = some (some (.obj i)))(K:Lk T i j n d dl)(ha:u ev T=some (x,T.set 0 (wd (yb 0) n')))(hb:v ev (T.set 0 (wd (yb 0) n'))=some (y,T.set 0 (wd (yb 0) n')))(hl:dl.length<16777216):zw "Shelf" "hold" jp (eV 0) (aC u (aC v aN)) ev T=some (.non,Up T i j n' x (dl++[y])) :=
 qo (e_v he) (qx K.s) zm8 (a_c ha (a_c hb a_n)) (zoo (K.wd_ n') hl)
def zwe(p:Nat):D:=.tup [.str (Str.ofString "out"),.int p]
def zl9(p:Nat):D:=.tup [.str (Str.ofString "swap"),.int p]
def zsy(p:Nat):D:=.tup [.str (Str.ofString "put"),.int p]
def zl8(p q:Nat):D:=.tup [.str (Str.ofString "turned"),.int p,.int q]
def zo6(p:Nat):D:=.tup [.str (Str.ofString "back"),.int p]
def zd5(p:Nat):D:=.tup [.str (Str.ofString "laid"),.int p]
def zju(p:Nat):D:=.tup [.str (Str.ofString "cut"),.int p]
inductive Mv (a:Nat):Nat->D->Prop
 |out (p:Nat):p<a->Mv a (a-1) (zwe p)
 |swap (p:Nat):p<a->Mv a a (zl9 p)
 |turn (p q:Nat):p<=q->q<=a->Mv a a (zl8 p q)
 |laid (q:Nat):q<=1100->Mv a (a+q) (zd5 q)
 |cut (p:Nat):p<=a->Mv a p (zju p)
 |back (q:Nat):q<=1100->Mv a q (zo6 q)
 |put (p:Nat):p<=a->Mv a (a+1) (zsy p)
theorem Mv.bnd0{a b:Nat}{v:D}(m:Mv a b v):bnd 0 v=true:=by cases m<;>rfl
theorem Mv.pl2{a b:Nat}{v:D}(m:Mv a b v):pl 2 v=true:=by cases m<;>rfl
theorem zxa{p:Nat}(K:Lk T i j n d dl)(m:Mk 0 d us h)(hl:us.length<=2000)(hp:p<us.length)(hd:dl.length<16777216):∃d' h' n',zcm [.obj i,.int p] T=some (us[p],Up T i j n' d' (dl++[zwe p]))/\Mk 0 d' (us.eraseIdx p) h':=by obtain⟨d',h',new,T1,c,rr,few⟩:=zx7 (k:=0) K.w m hl hp (zj9 m);have eT:=zek K.w rr.wt;subst eT;exact⟨d',h',n+new.length,ju rfl (ze (zl (zi (a_c (zc6 rfl K.s) (a_c (e_v rfl) a_n)) (zr2 m hl (z44 hp) _))) (ze (jf (zga rfl K (zi (a_c (zfd rfl K.s) (a_c (zc6 rfl K.s) (a_c (e_v rfl) a_n))) c) (jo (a_c e_k (a_c (e_v rfl) a_n)) (z4z rfl)) hd)) (zq (e_v rfl)))),rr.mm⟩
theorem zt2{p:Nat}(K:Lk T i j n d dl)(m:Mk 0 d us h)(hl:us.length<=2000)(hp:p<us.length)(ht:Thing 0 x)(hd:dl.length<16777216):∃d' n',zbs [.obj i,.int p,x] T=some (.non,Up T i j n' d' (dl++[zl9 p]))/\Mk 0 d' (us.set p x) h:=by obtain⟨d',new,T1,c,rr,few⟩:=zlj (k:=0) K.w m hl hp ht (zj9 m);have eT:=zek K.w rr.wt;subst eT;exact⟨d',n+new.length,zme rfl (jf (zga rfl K (zi (a_c (zfd rfl K.s) (a_c (zc6 rfl K.s) (a_c (e_v rfl) (a_c (e_v rfl) a_n)))) c) (jo (a_c e_k (a_c (e_v rfl) a_n)) (z4z rfl)) hd)),rr.mm⟩
theorem zw9{p:Nat}(K:Lk T i j n d dl)(m:Mk 0 d us h)(hl:us.length<2000)(hp:p<=us.length)(ht:Thing 0 x)(hd:dl.length<16777216):∃d' h' n',zcl [.obj i,.int p,x] T=some (.non,Up T i j n' d' (dl++[zsy p]))/\Mk 0 d' (us.take p++x::us.drop p) h':=by obtain⟨d',h',new,T1,c,rr,few⟩:=zxq (k:=0) K.w m hl hp ht (zj9 m);have eT:=zek K.w rr.wt;subst eT;exact⟨d',h',n+new.length,zme rfl (jf (zga rfl K (zi (a_c (zfd rfl K.s) (a_c (zc6 rfl K.s) (a_c (e_v rfl) (a_c (e_v rfl) a_n)))) c) (jo (a_c e_k (a_c (e_v rfl) a_n)) (z4z rfl)) hd)),rr.mm⟩
theorem znb{p q:Nat}(K:Lk T i j n d dl)(m:Mk 0 d us h)(hl:us.length<=2000)(hp:p<=q)(hq:q<=us.length)(hd:dl.length<16777216):∃d' h' n',zax [.obj i,.int p,.int q] T=some (.non,Up T i j n' d' (dl++[zl8 p q]))/\Mk 0 d' (turn p q us) h':=by obtain⟨d',h',new,T1,c,rr⟩:=zfs (k:=0) K.w m hl hp hq (zj9 m);have eT:=zek K.w rr.wt;subst eT;exact⟨d',h',n+new.length,zme rfl (jf (zga rfl K (zi (a_c (zfd rfl K.s) (a_c (zc6 rfl K.s) (a_c (e_v rfl) (a_c (e_v rfl) a_n)))) c) (jo (a_c e_k (a_c (e_v rfl) (a_c (e_v rfl) a_n))) (z4z rfl)) hd)),rr.mm⟩
theorem znc{q z:Nat}(K:Lk T i j n d dl)(hq:T[q]? = some (shf o z))(m:Mk 0 d us h)(mo:Mk 0 o rt rh)(hl:us.length+rt.length<=2000)(hd:dl.length<16777216):∃d' h' n',zar [.obj i,.obj q] T=some (.non,Up T i j n' d' (dl++[zd5 rt.length]))/\Mk 0 d' (us++rt) h':=by obtain⟨d',h',new,T1,c,rr,few⟩:=zl2 (k:=0) K.w m mo hl (zj9 m) (zj9 mo);have eT:=zek K.w rr.wt;subst eT;exact⟨d',h',n+new.length,zme rfl (ze (zl (zia rfl hq)) (jf (zga rfl K (zi (a_c (zfd rfl K.s) (a_c (zc6 rfl K.s) (a_c (e_v rfl) a_n))) c) (jo (a_c e_k (a_c (zi (a_c (e_v rfl) a_n) (q9 mo _)) a_n)) (z4z rfl)) hd))),rr.mm⟩
theorem zsc{p:Nat}(K:Lk T i j n d dl)(m:Mk 0 d us h)(hl:us.length<=2000)(hp:p<=us.length)(hd:dl.length<16777216) :
   ∃x y xh yh n',yu [.obj i,.int p] T=some (.obj T.length,Up T i j n' x (dl++[zju p])++[shf y (T.length+1),.lst []])/\Mk 0 x (us.take p) xh/\Mk 0 y (us.drop p) yh:=by
 obtain⟨x,y,xh,yh,new,T1,c,rr⟩:=zzy (k:=0) K.w m hl hp (zj9 m);have eT:=zek K.w rr.wt;subst eT;have tl:(T.set 0 (wd (yb 0) (n+new.length))).length=T.length:=z5a;refine⟨x,y,xh,yh,n+new.length,?_,rr.mx,rr.my⟩;have K1:=K.wd_ (n+new.length);have eu:Up T i j (n+new.length) x (dl++[zju p])=((T.set 0 (wd (yb 0) (n+new.length))).set i (shf x j)).set j (.lst (dl++[zju p])):=rfl;rw[eu];generalize T.set 0 (wd (yb 0) (n+new.length))=T1 at K1 tl c ⊢;have K2:=K1.app [shf .non (T1.length+1),.lst []];have q2:(T1++[shf .non (T1.length+1),.lst []])[T1.length]? = some (shf .non (T1.length+1)):=by simp
 have e3:(T1++[shf .non (T1.length+1),.lst []]).set T1.length (shf y (T1.length+1))=T1++[shf y (T1.length+1),.lst []]:=by simp
 have K3:=K1.app [shf y (T1.length+1),.lst []];have li:=(z4y.mp K1.s).1;have lj:=(z4y.mp K1.l).1;have e4:((T1++[shf y (T1.length+1),.lst []]).set i (shf x j)).set j (.lst (dl++[zju p]))=(T1.set i (shf x j)).set j (.lst (dl++[zju p]))++[shf y (T1.length+1),.lst []]:=by rw[z6g _ _ li,z6g _ _ (by rw[z5a];exact lj)]
 have h1:=zje (d:=.non) (j:=T1.length+1) (q:=3) (i:=T1.length) (x:=y) (v:=e2s z8 (eV 2) (eK (.int 1))) (ev:=[some (.obj i),some (.int p),some (.tup [x,y]),some (.obj T1.length)]) (S:=T1++[shf .non (T1.length+1),.lst []]) rfl (qs (e_v rfl) e_k rfl) q2;rw[e3]at h1;have h2:=zoo (x:=x) (y:=zju p) K3 hd;rw[e4]at h2;rw[<-tl];exact ju rfl (ze (zl (zi (a_c (zfd rfl K.s) (a_c (zc6 rfl K.s) (a_c (e_v rfl) a_n))) c)) (ze (zl (zt1 (zfd rfl K1.s))) (ze h1 (ze (jf (qo (e_v rfl) (qx K3.s) zm8 (a_c (qs (e_v rfl) e_k rfl) (a_c (jo (a_c e_k (a_c (e_v rfl) a_n)) (z4z rfl)) a_n)) h2)) (zq (e_v rfl))))))
theorem zeb{q:Nat}{v:MO}(h:S[q]? = some v):S.set q v=S:=by
 apply z8n;intro z;by_cases e:q=z
 · subst e;rw[kn h,h]
 · rw[z43 e]
theorem zt3(K:Lk T i j n d dl)(m:Mk 0 x us h)(hd:dl.length<16777216):zbt [.obj i,x] T=some (.non,Up T i j n x (dl++[zo6 us.length])):=by have e:T.set 0 (wd (yb 0) n)=T:=zeb K.w;exact zme rfl (jf (zga (n':=n) rfl K (by rw[e];exact e_v rfl) (by rw[e];exact jo (a_c e_k (a_c (zi (a_c (e_v rfl) a_n) (q9 m _)) a_n)) (z4z rfl)) hd))
section
variable {k:Nat} [Kd k]
mutual
theorem zdb{m:Nat}:∀{d:D},bnd 0 d=true->bnd m d=true
 | .obj i,hb=>by unfold bnd at hb;simp at hb
 | .tup ds,hb=>by unfold bnd at hb ⊢;exact bndL_up hb
 | .lst ds,hb=>by unfold bnd at hb ⊢;exact bndL_up hb
 | .non,_=>by unfold bnd;rfl
 | .bl _,_=>by unfold bnd;rfl
 | .int _,_=>by unfold bnd;rfl
 | .str _,_=>by unfold bnd;rfl
 | .fn _,_=>by unfold bnd;rfl
 | .ty _,_=>by unfold bnd;rfl
 | .lam _,_=>by unfold bnd;rfl
 | .clo _ ds,hb=>by unfold bnd at hb ⊢;exact bndL_up hb
theorem bndL_up{m:Nat}:∀{ds:List D},bndL 0 ds=true->bndL m ds=true
 | [],_=>rfl
 | d::ds,hb=>by unfold bndL at hb ⊢;obtain⟨h1,h2⟩:=z75.mp hb;rw[zdb h1,bndL_up h2];rfl
end
theorem zfo{m:Nat}:∀{ds:List D},(∀x∈ds,bnd m x=true)->bndL m ds=true
 | [],_=>rfl
 | d::ds,hb=>by unfold bndL;rw[hb d (z5w ..),zfo fun x hx=>hb x (z5d _ hx)];rfl
theorem zpl(hx:∀x∈ts,Thing k x):bnd 0 (zdd k ts)=true:=by
 by_cases hk:k=0
 · subst hk;rw[zh1];rfl
 · cases ts with
   |nil=>rfl
   | cons t ts=>
     have q:=zwr (zke hk (by simp) hx);generalize zdd k (t::ts)=z at q ⊢;cases q with
     |non=>rfl
     |int i=>rfl
     |str z=>rfl
     |pair a b=>rfl
theorem Mk.bnd0(m:Mk k d ts h):bnd 0 d=true:=by
 induction m with
 |non=>rfl
 | @node num a l t r lt rt lh rh ml mr ht h1 h2 i1 i2=>
   have hth:∀x∈ord a (lt++t::rt),Thing k x:=(Mk.node (num:=num) (a:=a) ml mr ht h1 h2).things;unfold mkD;unfold bnd;simp only[bndL,i1,i2,zb1 ht,zpl hth,zpl (zxi hth),z8p];simp[bnd]
end
theorem zjg{m:Nat}(hm:j<m)(hd:bnd 0 d=true):zhy m (shf d j)=true:=by show(bnd m (.obj 0)&&(bnd m d&&(bnd m (.obj j)&&true)))=true;rw[zdb hd];simp[bnd];omega
def Kp(b:Nat)(x:D):Prop:=∃md us g,x=.tup [md,.lst us]/\Mk 0 md us g/\us.length<=b
theorem zld:∀{ts:List D},(∀x∈ts,bnd 0 x=true)->bndL 0 ts=true
 | [],_=>rfl
 | x::ts,h=>by unfold bndL;rw[h x (z5w ..),zld fun y hy=>h y (z5d _ hy)];rfl
theorem Kp.bnd0{b:Nat}(k:Kp b x):bnd 0 x=true:=by obtain⟨md,us,g,rfl,m,_⟩:=k;show(bnd 0 md&&(bnd 0 (.lst us)&&true))=true;rw[Mk.bnd0 m,show bnd 0 (.lst us)=true from zao m.things];rfl
mutual
theorem zs3{m q:Nat}(hm:q<=m):∀{d:D},bnd q d=true->bnd m d=true
 | .obj i,hb=>by unfold bnd at hb ⊢;exact z49 (z48 (z67 hb) hm)
 | .tup ds,hb=>by unfold bnd at hb ⊢;exact bndL_le hm hb
 | .lst ds,hb=>by unfold bnd at hb ⊢;exact bndL_le hm hb
 | .non,_=>by unfold bnd;rfl
 | .bl _,_=>by unfold bnd;rfl
 | .int _,_=>by unfold bnd;rfl
 | .str _,_=>by unfold bnd;rfl
 | .fn _,_=>by unfold bnd;rfl
 | .ty _,_=>by unfold bnd;rfl
 | .lam _,_=>by unfold bnd;rfl
 | .clo _ ds,hb=>by unfold bnd at hb ⊢;exact bndL_le hm hb
theorem bndL_le{m q:Nat}(hm:q<=m):∀{ds:List D},bndL q ds=true->bndL m ds=true
 | [],_=>rfl
 | d::ds,hb=>by unfold bndL at hb ⊢;obtain⟨h1,h2⟩:=z75.mp hb;rw[zs3 hm h1,bndL_le hm h2];rfl
end
theorem zvz{m q:Nat}(hm:q<=m){o:MO}(hb:zhy q o=true):zhy m o=true:=by
 cases o with
 |lst ds=>exact bndL_le hm hb
 |ins c fs=>exact bndL_le hm hb
 |dct kvs=>exact bndL_le hm hb
 |exc c=>rfl
 |tab x q=>rfl
 |xd x d=>exact zs3 hm hb
 |xc c j=>exact z49 (z48 (z67 hb) hm)
def Dl(dl:List D):Prop:=∀v∈dl,bnd 0 v=true/\pl 2 v=true
theorem Dl.app{v:D}{a b:Nat}(q:Dl dl)(m:Mv a b v):Dl (dl++[v]):=fun x hx=>(z6m.mp hx).elim (q x) fun e=>by rw[z5i.mp e];exact⟨m.bnd0,m.pl2⟩
theorem zcb{q:Nat}{m:MO}(h:SB S)(hm:zhy S.length m=true):SB (S.set q m):=fun z hz=>by
 rw[z5a];rcases List.mem_or_eq_of_mem_set hz with h1 | h1
 · exact h z h1
 · rw[h1];exact hm
theorem znf{J:Sto}(h:SB S)(hJ:∀m∈J,zhy (S.length+J.length) m=true):SB (S++J):=fun z hz=>by
 rw[z41];rcases z6m.mp hz with h1 | h1
 · exact zvz (by omega) (h z h1)
 · exact hJ z h1
theorem zzv{m:Nat}(q:Dl dl):zhy m (.lst dl)=true:=bndL_up (zld fun v hv=>(q v hv).1)
theorem zt5{g:Nat}(h:SB T)(K:Lk T i j n d0 e){n':Int}(m:Mk 0 d us g)(q:Dl dl):SB (Up T i j n' d dl):=by have lj:=(z4y.mp K.l).1;unfold Up;refine zcb (zcb (zcb h (zr4 (k:=0) _ _)) ?_) (zzv q);rw[z5a];exact zjg lj (Mk.bnd0 m)
theorem zze{g:G}{ds:List D}{S':Sto}{d':D}(hg:g ds S=some (d,S'))(hb:SB (S'.take S.length))(hl:(S'.take S.length).length=S.length)(hd:frd S.length S' d=some d'):frz2 g ds S=some (d',S'.take S.length):=by
 have e2:(S'.take S.length).all (zhy S.length)=true:=z51.mpr fun m hm=>by have:=hb m hm;rw[hl]at this;exact this
 simp only[frz2,hg,Option.bind_some,e2,z64,hd,Option.map_some]
theorem z2n{m a b:Nat}{T:Sto}{v:D}(h1:∀x∈us,Thing 0 x)(h2:Mv a b v):frd m T (.tup [.lst us,v])=some (.tup [.lst us,v]):=by
 have e1:frd m T (.lst us)=some (.lst us):=by have:bndL m us=true:=zao h1;simp[frd,bnd,this]
 have e2:frd m T v=some v:=by cases h2<;>simp[zwe,zl9,zl8,zd5,zju,zo6,zsy,frd,frdL,bnd]
 simp only[frd,frdL]at *;simp only[e1,e2,Option.bind_some,Option.map_some]
end Pg
namespace Pg
open PySem L2 F Mt
variable {d d0 l r t x y o:D}{ts us dl ks rt:List D}{h i j g rh:Nat}{n:Int}{S S0 S1 T J:Sto}{ev:Ev}{a kp:Nat}
theorem zx6{p q v:Nat}(hl:ts.length<=2000)(hp:p<ts.length)(h1:ev[q]? = some (some (.lst ts)))(h2:ev[v]? = some (some (.int p))) :
   e2 qb (eSl (eV q) pN (pE (eV v))) (eSl (eV q) (pE (e2 qb (eV v) (eK (.int 1)))) pN) ev S=some (.lst (ts.eraseIdx p),S):=by
 have:=e_2 (zmk (e_v h1) p_n (p_e (e_v h2)) (zm4 p)) (zmk (S:=S) (e_v h1) (p_e (e_2 (e_v h2) e_k (z0e p))) p_n (zdf (show p+1<=ts.length from hp))) (zbg (xs:=ts.take p) (ys:=ts.drop (p+1)) (by simp only[z5g,z5r];omega));rw[List.eraseIdx_eq_take_drop_succ];exact this
theorem zth{p q v w:Nat}(hl:ts.length<=2000)(hp:p<ts.length)(h1:ev[q]? = some (some (.lst ts)))(h2:ev[v]? = some (some (.int p)))(h3:ev[w]? = some (some x)) :
   e2 qb (e2 qb (eSl (eV q) pN (pE (eV v))) (zjr (aC (eV w) aN))) (eSl (eV q) (pE (e2 qb (eV v) (eK (.int 1)))) pN) ev S=some (.lst (ts.set p x),S):=by
 have:=e_2 (e_2 (zmk (e_v h1) p_n (p_e (e_v h2)) (zm4 p)) (zl6 (a_c (e_v h3) a_n) (z4z rfl)) (zbg (xs:=ts.take p) (ys:=[x]) (by simp only[z5g,List.length_cons,List.length_nil];omega))) (zmk (S:=S) (e_v h1) (p_e (e_2 (e_v h2) e_k (z0e p))) p_n (zdf (show p+1<=ts.length from hp))) (zbg (xs:=ts.take p++[x]) (ys:=ts.drop (p+1)) (by simp only[z41,z5g,z5r,List.length_cons,List.length_nil];omega));rw[show ts.take p++[x]++ts.drop (p+1)=ts.set p x by rw[List.set_eq_take_append_cons_drop,z5o hp];simp]at this;exact this
theorem zxp{p q v w:Nat}(hl:ts.length<=2000)(hp:p<=ts.length)(h1:ev[q]? = some (some (.lst ts)))(h2:ev[v]? = some (some (.int p)))(h3:ev[w]? = some (some x)) :
   e2 qb (e2 qb (eSl (eV q) pN (pE (eV v))) (zjr (aC (eV w) aN))) (eSl (eV q) (pE (eV v)) pN) ev S=some (.lst (ts.take p++x::ts.drop p),S):=by
 have:=e_2 (e_2 (zmk (e_v h1) p_n (p_e (e_v h2)) (zm4 p)) (zl6 (a_c (e_v h3) a_n) (z4z rfl)) (zbg (xs:=ts.take p) (ys:=[x]) (by simp only[z5g,List.length_cons,List.length_nil];omega))) (zmk (S:=S) (e_v h1) (p_e (e_v h2)) p_n (zdf hp)) (zbg (xs:=ts.take p++[x]) (ys:=ts.drop p) (by simp only[z41,z5g,z5r,List.length_cons,List.length_nil];omega));rw[List.append_assoc,List.singleton_append]at this;exact this
theorem zta{s e q v w:Nat}(hl:ts.length<=2000)(hs:s<=e)(he:e<=ts.length)(h1:ev[q]? = some (some (.lst ts)))(h2:ev[v]? = some (some (.int s)))(h3:ev[w]? = some (some (.int e))) :
   e2 qb (e2 qb (eSl (eV q) pN (pE (eV v))) (zc8 (eSl (eV q) (pE (eV v)) (pE (eV w))))) (eSl (eV q) (pE (eV w)) pN) ev S=some (.lst (turn s e ts),S) :=
 e_2 (e_2 (zmk (e_v h1) p_n (p_e (e_v h2)) (zm4 s)) (zoe (zmk (e_v h1) (p_e (e_v h2)) (p_e (e_v h3)) (zw8 hs he))) (zbg (xs:=ts.take s) (ys:=((ts.take e).drop s).reverse) (by simp only[z5g,z5r,z6j];omega))) (zmk (S:=S) (e_v h1) (p_e (e_v h3)) p_n (zdf he)) (zbg (xs:=ts.take s++((ts.take e).drop s).reverse) (ys:=ts.drop e) (by simp only[z41,z5g,z5r,z6j];omega))
theorem zyh(ts:List D):zqz (.lst ts) (.lst [])=some (.bl (decide (ts≠[]))):=by cases ts<;>rfl
theorem z2d(w:Int):zv9 (.int w) (.tup [.int 3,.int 4])=some (.bl (decide (w=3\/w=4))):=by
 show some (D.bl (inV (V.int w) [V.int 3,V.int 4]))=_;congr 2;by_cases h3:w=3
 · subst h3;rfl
 · by_cases h4:w=4
   · subst h4;rfl
   · rw[z47 (by omega)];simp[inV,eqV,h3,h4,z5x h3,z5x h4]
theorem zls{f z:Int}(K:Lk T i j n d dl)(m:Mk 0 d ts h)(hl:ts.length<2000)(hd:dl.length<16777216):∃p d' h' n',p<=ts.length/\zba [.obj i,.lst ts,.int z,.int f] T=some (.tup [.lst (ts.take p++.int f::ts.drop p),zsy p],Up T i j n' d' (dl++[zsy p]))/\Mk 0 d' (ts.take p++.int f::ts.drop p) h':=by obtain⟨p,hp,cp⟩:=zey z ts.length;obtain⟨d',h',n',c,m'⟩:=zw9 K m hl hp (zkf f) hd;exact⟨p,d',h',n',hp,ju rfl (ze (zl (e_2 (e_v rfl) (e_2 (e_a (a_c (e_v rfl) a_n) rfl) e_k (add_int _ _)) cp)) (ze (jf (qo (e_v rfl) (qx K.s) zw6 (a_c (e_v rfl) (a_c (e_v rfl) a_n)) c)) (zq (jo (a_c (zxp (by omega) hp rfl rfl rfl) (a_c (jo (a_c e_k (a_c (e_v rfl) a_n)) (z4z rfl)) a_n)) (z4z rfl))))),m'⟩
theorem zs1(f:Int)(S:Sto):∀(m:Nat) (lo:Int),∃us,zil (e2 qb (eV 1) (eV 0)) [some (.int f)] (j5 lo m) S=some (us,S)/\us.length=m/\∀x∈us,Thing 0 x
 |0,lo=>⟨[],rfl,rfl,fun _ hx=>by cases hx⟩
 | m+1,lo=>by obtain⟨us,c,l,t⟩:=zs1 f S m (lo+1);refine⟨.int (f+lo)::us,?_,by rw[List.length_cons,l],fun x hx=>(z5z.mp hx).elim (fun e=>by rw[e];exact zkf _) (t x)⟩;rw[zf4];show((e2 qb (eV 1) (eV 0) [some (.int lo),some (.int f)] S).bind fun p=>(zil (e2 qb (eV 1) (eV 0)) [some (.int f)] (j5 (lo+1) m) p.2).bind fun q=>some (p.1::q.1,q.2))=_;rw[show e2 qb (eV 1) (eV 0) [some (.int lo),some (.int f)] S=some (.int (f+lo),S)from rfl];simp only[Option.bind_some,c]
theorem zwj(K:Lk T i j n d0 us){n1 n':Int}{d:D}{dl:List D}:Up (T.set 0 (wd (yb 0) n1)++J) i j n' d dl=Up T i j n' d dl++J:=by have l0:=(z4y.mp K.w).1;have li:=(z4y.mp K.s).1;have lj:=(z4y.mp K.l).1;unfold Up;rw[z6g _ _ (by rw[z5a];exact l0),z6g _ _ (by simp only[z5a];exact li),z6g _ _ (by simp only[z5a];exact lj),z8i]
theorem zna{f g:E}(hf:f ev T=some (.obj 0,T))(hg:g ev T=some (.lst ts,T))(hw:T[0]? = some (wd (yb 0) n))(h1:∀x∈ts,Thing 0 x)(hl:ts.length<=2000):∃d h n',zbe "Shelf" z9 (aC f (aC g aN)) ev T=some (.obj T.length,T.set 0 (wd (yb 0) n')++[shf d (T.length+1),.lst []])/\Mk 0 d ts h:=by
 have l0:=(z4y.mp hw).1;obtain⟨d,h,new,T1,c,rr⟩:=zt0 (P:=fun _=>True) hf hg hw h1 hl;have hw':(T++[shf .non (T.length+1),.lst []])[0]? = some (wd (yb 0) n):=by rw[z5h l0];exact hw
 have eT:=zek hw' rr.wt;subst eT;refine⟨d,h,n+new.length,c.trans ?_,rr.mm⟩;rw[z6g _ _ l0];have:=z70 (s:=T.set 0 (wd (yb 0) (n+new.length))) (t:=[shf .non (T.length+1),.lst []]) T.length (shf d (T.length+1)) (by rw[z5a];exact z45 _);rw[this,z5a];simp
theorem zim{g:E}{fr:Ev}:∀(ds:List D) (S:Sto),zpb zmf g fr ds S=zil g fr ds S
 | [],S=>rfl
 | d::ds,S=>by
   unfold zpb zil;simp only[zmf,Option.bind_some,z64];cases g (some d::fr) S with
   |none=>rfl
   |some p=>simp only[Option.bind_some,zim ds p.2]
theorem zk6{cap:List Nat}{f e:E}{m:Int}{us:List D}(hf:f ev T=some (.int m,T))(h0:0<=m)(h1:m<1000000)(h:zil e (cap.map (zk4 ev)) (j5 0 m.toNat) T=some (us,T)):zdx cap (zv6 f) zmf e ev T=some (.lst us,T):=by
 have cnd:-(2^62)<=m/\m<2^62/\m<=(sizeLine:Int):=by rw[z55];omega
 simp only[zdx,zv6,hf,Option.bind_some,z5o cnd,zc9,zim,h,Option.map_some]
theorem zrb{f z:Int}(K:Lk T i j n d dl)(z0:0<=z)(m:Mk 0 d ts h)(hl:ts.length<1000)(hd:dl.length<16777216):∃us d' h' n' J,zbc [.obj 0,.obj i,.lst ts,.int z,.int f] T=some (.tup [.lst (ts++us),zd5 us.length],Up T i j n' d' (dl++[zd5 us.length])++J)/\Mk 0 d' (ts++us) h'/\(us.length<=3\/(us.length=ts.length/\ts.length<60)):=by
 have a0:=z6d z (show(4:Int)≠0 by decide);have a1:=z54 z (show(0:Int)<4 by decide);obtain⟨us,cu,lu,tu⟩:=zs1 f T (z%4).toNat 0;have first:qv 5 (zdx [4] (zv6 (e2 jr (eV 3) (eK (.int 4)))) zmf (e2 qb (eV 1) (eV 0))) [some (.obj 0),some (.obj i),some (.lst ts),some (.int z),some (.int f),none] T=some (.nx [some (.obj 0),some (.obj i),some (.lst ts),some (.int z),some (.int f),some (.lst us)],T) :=
   zl (zk6 (e_2 (e_v rfl) e_k (zcw (by decide))) a0 (by omega) cu)
 have c1:e2 ki (e2 jr (e2 zbk (eV 3) (eK (.int 4))) (eK (.int 4))) (eK (.int 0)) [some (.obj 0),some (.obj i),some (.lst ts),some (.int z),some (.int f),some (.lst us)] T=some (.bl (decide (z/4%4=0)),T):=e_2 (e_2 (e_2 (e_v rfl) e_k (zhh (by decide))) e_k (zcw (by decide))) e_k (zfc _ _);have c2:e2 zai (eA y9 (aC (eV 2) aN)) (eK (.int 60)) [some (.obj 0),some (.obj i),some (.lst ts),some (.int z),some (.int f),some (.lst us)] T=some (.bl (decide ((ts.length:Int)<60)),T):=e_2 (e_a (a_c (e_v rfl) a_n) rfl) e_k (zq6 _ _);have rest:∀(cc:zca (bE (e2 ki (e2 jr (e2 zbk (eV 3) (eK (.int 4))) (eK (.int 4))) (eK (.int 0)))) (bE (e2 zai (eA y9 (aC (eV 2) aN)) (eK (.int 60)))) [some (.obj 0),some (.obj i),some (.lst ts),some (.int z),some (.int f),some (.lst us)] T=some (false,T)),∃us d' h' n' J,zbc [.obj 0,.obj i,.lst ts,.int z,.int f] T=some (.tup [.lst (ts++us),zd5 us.length],Up T i j n' d' (dl++[zd5 us.length])++J)/\Mk 0 d' (ts++us) h'/\(us.length<=3\/(us.length=ts.length/\ts.length<60)):=fun cc=>by
   obtain⟨o,g,n1,cs,mo⟩:=zna (ts:=us) (ev:=[some (.obj 0),some (.obj i),some (.lst ts),some (.int z),some (.int f),some (.lst us)]) (f:=eV 0) (g:=eV 5) (e_v rfl) (e_v rfl) K.w tu (by omega);have K1:=(K.wd_ n1).app [shf o (T.length+1),.lst []];have ht:(T.set 0 (wd (yb 0) n1)++[shf o (T.length+1),.lst []])[T.length]? = some (shf o (T.length+1)):=by rw[z5j (by rw[z5a];exact z45 _),z5a];simp
   obtain⟨d',h',n',c,m'⟩:=znc K1 ht m mo (by omega) hd;have eu:Up (T.set 0 (wd (yb 0) n1)++[shf o (T.length+1),.lst []]) i j n' d' (dl++[zd5 us.length])=Up T i j n' d' (dl++[zd5 us.length])++[shf o (T.length+1),.lst []]:=zwj K;rw[eu]at c;exact⟨us,d',h',n',_,ju rfl (ze first (ze (zk cc) (ze (jf (qo (e_v rfl) (qx K.s) zm7 (a_c cs a_n) c)) (zq (jo (a_c (e_2 (e_v rfl) (e_v rfl) (zbg (xs:=ts) (ys:=us) (by omega))) (a_c (jo (a_c e_k (a_c (e_a (a_c (e_v rfl) a_n) rfl) a_n)) (z4z rfl)) a_n)) (z4z rfl)))))),m',.inl (by omega)⟩
 by_cases e1:z/4%4=0
 · by_cases e2':(ts.length:Int)<60
   · rw[z49 e1]at c1;rw[z49 e2']at c2;obtain⟨d',h',n',c,m'⟩:=znc K K.s m m (by omega) hd;refine⟨ts,d',h',n',[],?_,m',.inr ⟨rfl,by omega⟩⟩;rw[z5y];exact ju rfl (ze first (qu (zy (zd0 (qp c1) (qp c2)) (ze (jf (qo (e_v rfl) (qx K.s) zm7 (a_c (e_v rfl) a_n) c)) (zq (jo (a_c (e_2 (e_v rfl) (e_v rfl) (zbg (xs:=ts) (ys:=ts) (by omega))) (a_c (jo (a_c e_k (a_c (e_a (a_c (e_v rfl) a_n) rfl) a_n)) (z4z rfl)) a_n)) (z4z rfl)))))))
   · rw[z49 e1]at c1;rw[z47 e2']at c2;exact rest (zd0 (qp c1) (qp c2))
 · rw[z47 e1]at c1;exact rest (zau (qp c1))
theorem z2v{n':Int}{d' v:D}{ts' ds:List D}{h' a b:Nat}(K:Lk T i j n d dl)(sb:SB T)(hg:zu 12 6 zcp ds T=some (.tup [.lst ts',v],Up T i j n' d' (dl++[v])++J))(m':Mk 0 d' ts' h')(q:Dl dl)(mv:Mv a b v):xw ds T=some (.tup [.lst ts',v],Up T i j n' d' (dl++[v])):=by
 have e:(Up T i j n' d' (dl++[v])++J).take T.length=Up T i j n' d' (dl++[v]):=by have:T.length=(Up T i j n' d' (dl++[v])).length:=up_len.symm;rw[this,z85]
 have:=zze (S:=T) hg (by rw[e];exact zt5 sb K m' (q.app mv)) (by rw[e,up_len]) (z2n m'.things mv);rw[e]at this;exact this
theorem zzu{n':Int}{d' v:D}{ts' ds:List D}{h' a b:Nat}(K:Lk T i j n d dl)(sb:SB T)(hg:zu 12 6 zcp ds T=some (.tup [.lst ts',v],Up T i j n' d' (dl++[v])))(m':Mk 0 d' ts' h')(q:Dl dl)(mv:Mv a b v):xw ds T=some (.tup [.lst ts',v],Up T i j n' d' (dl++[v])) :=
 z2v (J:=[]) K sb (by rw[z5y];exact hg) m' q mv
theorem zvr{z f:Int}{c:Nat}(K:Lk T i j n d dl)(sb:SB T)(hk:T[kp]? = some (.lst ks))(z0:0<=z)(m:Mk 0 d ts h)(hl:ts.length<1000)(hd:dl.length<1000)(q:Dl dl)(kk:∀x∈ks,Kp c x)(k0:0<ks.length)(hc:c<=1000) :
   ∃n' ts' d' h' v,xw [.obj 0,.obj i,.lst ts,.obj kp,.int z,.int f] T=some (.tup [.lst ts',v],Up T i j n' d' (dl++[v]))/\Mk 0 d' ts' h'/\Mv ts.length ts'.length v/\(ts'.length<=ts.length+3\/ts'.length<=120\/ts'.length<=c):=by
 have hd2:dl.length<16777216:=by omega
 have hl2:ts.length<=2000:=by omega
 have q0:0<=z/9:=Int.ediv_nonneg z0 (by decide);have head:∀{o':Out}{S':Sto}{c:C},c [some (.obj 0),some (.obj i),some (.lst ts),some (.obj kp),some (.int (z/9)),some (.int f),some (.int (z%9)),none,none,none,none,none] T=some (o',S') ->
     zt (qv 6 (e2 jr (eV 4) (eK (.int 9)))) (zt (qv 4 (e2 zbk (eV 4) (eK (.int 9)))) c) [some (.obj 0),some (.obj i),some (.lst ts),some (.obj kp),some (.int z),some (.int f),none,none,none,none,none,none] T=some (o',S'):=fun hc=>
   ze (zl (e_2 (e_v rfl) e_k (zcw (by decide)))) (ze (zl (e_2 (e_v rfl) e_k (zhh (by decide)))) hc)
 have cnd:∀(c:Int),zca (bE (e2 ki (eV 6) (eK (.int c)))) (bE (e2 zqz (eV 2) (zjr aN))) [some (.obj 0),some (.obj i),some (.lst ts),some (.obj kp),some (.int (z/9)),some (.int f),some (.int (z%9)),none,none,none,none,none] T=some (decide (z%9=c/\ts≠[]),T):=fun c=>by
   by_cases h1:z%9=c
   · refine(zd0 (qp (e_2 (e_v rfl) e_k ((zfc _ _).trans (by rw[z49 h1])))) (qp (e_2 (e_v rfl) (zl6 a_n (z5t _)) (zyh ts)))).trans ?_;congr 2;rw[z6h];exact⟨fun w=>⟨h1,w⟩,fun w=>w.2⟩
   · refine(zau (qp (e_2 (e_v rfl) e_k ((zfc _ _).trans (by rw[z47 h1]))))).trans ?_;rw[z47 (fun q=>h1 q.1)]
 have ce:∀(c:Int),bE (e2 ki (eV 6) (eK (.int c))) [some (.obj 0),some (.obj i),some (.lst ts),some (.obj kp),some (.int (z/9)),some (.int f),some (.int (z%9)),none,none,none,none,none] T=some (decide (z%9=c),T):=fun c=>qp (e_2 (e_v rfl) e_k (zfc _ _));have pos:ts≠[]->0<ts.length:=fun w=>z56.mpr w;have tr:∀{b:Bool}{p:Prop} [Decidable p],p->(some (decide p,T):Option (Bool×Sto))=some (true,T):=fun w=>by rw[z49 w]
 have fl:∀{b:Bool}{p:Prop} [Decidable p],¬ p->(some (decide p,T):Option (Bool×Sto))=some (false,T):=fun w=>by rw[z47 w]
 by_cases c1:z%9=1/\ts≠[]
 · obtain⟨p,hp,cp⟩:=zex (z/9) (pos c1.2);obtain⟨d',h',n',co,m'⟩:=zxa K m hl2 hp hd2;have ln:(ts.eraseIdx p).length=ts.length-1:=by rw[List.length_eraseIdx,z5o hp]
   have mv:Mv ts.length (ts.eraseIdx p).length (zwe p):=by rw[ln];exact .out p hp
   exact⟨n',ts.eraseIdx p,d',h',zwe p,zzu K sb (ju rfl (head (qu (zy ((cnd 1).trans (tr (b:=true) c1)) (ze (zl (e_2 (e_v rfl) (e_a (a_c (e_v rfl) a_n) rfl) cp)) (ze (jf (qo (e_v rfl) (qx K.s) zw7 (a_c (e_v rfl) a_n) co)) (zq (jo (a_c (zx6 hl2 hp rfl rfl) (a_c (jo (a_c e_k (a_c (e_v rfl) a_n)) (z4z rfl)) a_n)) (z4z rfl))))))))) m' q mv,m',mv,.inl (by omega)⟩
 by_cases c2:z%9=2/\ts≠[]
 · obtain⟨p,hp,cp⟩:=zex (z/9) (pos c2.2);obtain⟨d',n',co,m'⟩:=zt2 K m hl2 hp (zkf f) hd2;have mv:Mv ts.length (ts.set p (.int f)).length (zl9 p):=by rw[z5a];exact .swap p hp
   exact⟨n',ts.set p (.int f),d',h,zl9 p,zzu K sb (ju rfl (head (ze (zk ((cnd 1).trans (fl (b:=true) c1))) (qu (zy ((cnd 2).trans (tr (b:=true) c2)) (ze (zl (e_2 (e_v rfl) (e_a (a_c (e_v rfl) a_n) rfl) cp)) (ze (jf (qo (e_v rfl) (qx K.s) ztx (a_c (e_v rfl) (a_c (e_v rfl) a_n)) co)) (zq (jo (a_c (zth hl2 hp rfl rfl rfl) (a_c (jo (a_c e_k (a_c (e_v rfl) a_n)) (z4z rfl)) a_n)) (z4z rfl)))))))))) m' q mv,m',mv,.inl (by rw[z5a];omega)⟩
 have cin:bE (e2 zv9 (eV 6) (xq (aC (eK (.int 3)) (aC (eK (.int 4)) aN)))) [some (.obj 0),some (.obj i),some (.lst ts),some (.obj kp),some (.int (z/9)),some (.int f),some (.int (z%9)),none,none,none,none,none] T=some (decide (z%9=3\/z%9=4),T):=qp (e_2 (e_v rfl) (jo (a_c e_k (a_c e_k a_n)) (z4z rfl)) (z2d _));by_cases c3:z%9=3\/z%9=4
 · obtain⟨p,hp,cp⟩:=zey (z/9) ts.length;obtain⟨e,he,cq⟩:=zey (z/9/64) (ts.length-p);rw[show((ts.length-p:Nat):Int)+1=(ts.length:Int)+1-(p:Int) by omega]at cq;obtain⟨d',h',n',co,m'⟩:=znb K (p:=p) (q:=p+e) m hl2 (by omega) (by omega) hd2;have ln:=zp2 (ts:=ts) (s:=p) (e:=p+e) (by omega) (by omega);have mv:Mv ts.length (turn p (p+e) ts).length (zl8 p (p+e)):=by rw[ln];exact .turn p (p+e) (by omega) (by omega)
   exact⟨n',turn p (p+e) ts,d',h',zl8 p (p+e),zzu K sb (ju rfl (head (ze (zk ((cnd 1).trans (fl (b:=true) c1))) (ze (zk ((cnd 2).trans (fl (b:=true) c2))) (qu (zy (cin.trans (tr (b:=true) c3)) (ze (zl (e_2 (e_v rfl) (e_2 (e_a (a_c (e_v rfl) a_n) rfl) e_k (add_int _ _)) cp)) (ze (zl (d:=.int ((p+e:Nat):Int)) (e_2 (e_v rfl) (e_2 (e_2 (e_v rfl) e_k (zhh (by decide))) (e_2 (e_2 (e_a (a_c (e_v rfl) a_n) rfl) e_k (add_int _ _)) (e_v rfl) (sub_int _ _)) cq) rfl)) (ze (jf (qo (e_v rfl) (qx K.s) zm3 (a_c (e_v rfl) (a_c (e_v rfl) a_n)) co)) (zq (jo (a_c (zta hl2 (by omega) (by omega) rfl rfl rfl) (a_c (jo (a_c e_k (a_c (e_v rfl) (a_c (e_v rfl) a_n))) (z4z rfl)) a_n)) (z4z rfl)))))))))))) m' q mv,m',mv,.inl (by rw[ln];omega)⟩
 by_cases c5:z%9=5
 · obtain⟨us,d',h',n',J,co,m',lu⟩:=zrb K (f:=f) q0 m hl hd2;have mv:Mv ts.length (ts++us).length (zd5 us.length):=by rw[z41];exact .laid _ (by omega)
   exact⟨n',ts++us,d',h',zd5 us.length,z2v K sb (ju rfl (head (ze (zk ((cnd 1).trans (fl (b:=true) c1))) (ze (zk ((cnd 2).trans (fl (b:=true) c2))) (ze (zk (cin.trans (fl (b:=true) c3))) (qu (zy ((ce 5).trans (tr (b:=true) c5)) (zq (zi (a_c (e_v rfl) (a_c (e_v rfl) (a_c (e_v rfl) (a_c (e_v rfl) (a_c (e_v rfl) a_n))))) co))))))))) m' q mv,m',mv,by rw[z41];omega⟩
 by_cases c6:z%9=6
 · obtain⟨e,he,cq⟩:=zey (z/9) ts.length;obtain⟨x,y,xh,yh,n',co,m',my⟩:=zsc K (p:=ts.length-e/2) m hl2 (by omega) hd2;have ln:(ts.take (ts.length-e/2)).length=ts.length-e/2:=by rw[z5g];omega
   have mv:Mv ts.length (ts.take (ts.length-e/2)).length (zju (ts.length-e/2)):=by rw[ln];exact .cut _ (by omega)
   have e1:zad (.int (ts.length:Int)) (.int ((e:Int)/2))=some (.int ((ts.length-e/2:Nat):Int)):=by rw[sub_int];congr 2;omega
   exact⟨n',ts.take (ts.length-e/2),x,xh,zju (ts.length-e/2),z2v K sb (ju rfl (head (ze (zk ((cnd 1).trans (fl (b:=true) c1))) (ze (zk ((cnd 2).trans (fl (b:=true) c2))) (ze (zk (cin.trans (fl (b:=true) c3))) (ze (zk ((ce 5).trans (fl (b:=true) c5))) (qu (zy ((ce 6).trans (tr (b:=true) c6)) (ze (zl (e_2 (e_a (a_c (e_v rfl) a_n) rfl) (e_2 (e_2 (e_v rfl) (e_2 (e_a (a_c (e_v rfl) a_n) rfl) e_k (add_int _ _)) cq) e_k (zhh (by decide))) e1)) (ze (jf (qo (e_v rfl) (qx K.s) zsa (a_c (e_v rfl) a_n) co)) (zq (jo (a_c (zmk (e_v rfl) p_n (p_e (e_v rfl)) (zm4 _)) (a_c (jo (a_c e_k (a_c (e_v rfl) a_n)) (z4z rfl)) a_n)) (z4z rfl))))))))))))) m' q mv,m',mv,.inl (by rw[ln];omega)⟩
 have c7:bE (e2 ki (e2 jr (eV 4) (eK (.int 2))) (eK (.int 0))) [some (.obj 0),some (.obj i),some (.lst ts),some (.obj kp),some (.int (z/9)),some (.int f),some (.int (z%9)),none,none,none,none,none] T=some (decide (z/9%2=0),T):=qp (e_2 (e_2 (e_v rfl) e_k (zcw (by decide))) e_k (zfc _ _));have put:∀(cc:zca (bE (e2 ki (eV 6) (eK (.int 7)))) (bE (e2 ki (e2 jr (eV 4) (eK (.int 2))) (eK (.int 0)))) [some (.obj 0),some (.obj i),some (.lst ts),some (.obj kp),some (.int (z/9)),some (.int f),some (.int (z%9)),none,none,none,none,none] T=some (false,T)),∃n' ts' d' h' v,xw [.obj 0,.obj i,.lst ts,.obj kp,.int z,.int f] T=some (.tup [.lst ts',v],Up T i j n' d' (dl++[v]))/\Mk 0 d' ts' h'/\Mv ts.length ts'.length v/\(ts'.length<=ts.length+3\/ts'.length<=120\/ts'.length<=c):=fun cc=>by
   obtain⟨p,d',h',n',hp,co,m'⟩:=zls K (f:=f) (z:=z/9) m (by omega) hd2;have ln:=zji (ts:=ts) (x:=.int f) p;have mv:Mv ts.length (ts.take p++.int f::ts.drop p).length (zsy p):=by rw[ln];exact .put p hp
   exact⟨n',_,d',h',zsy p,zzu K sb (ju rfl (head (ze (zk ((cnd 1).trans (fl (b:=true) c1))) (ze (zk ((cnd 2).trans (fl (b:=true) c2))) (ze (zk (cin.trans (fl (b:=true) c3))) (ze (zk ((ce 5).trans (fl (b:=true) c5))) (ze (zk ((ce 6).trans (fl (b:=true) c6))) (ze (zk cc) (zq (zi (a_c (e_v rfl) (a_c (e_v rfl) (a_c (e_v rfl) (a_c (e_v rfl) a_n)))) co)))))))))) m' q mv,m',mv,.inl (by rw[ln];omega)⟩
 by_cases e7:z%9=7
 · by_cases e8:z/9%2=0
   · obtain⟨p,hp,cp⟩:=zex (z/9/2) (c:=ks.length) k0;obtain⟨md,us,g,ex,mm,lu⟩:=kk _ (z7a hp);have hix:z8 T (.obj kp) (.int p)=some (.tup [md,.lst us]):=by simp only[z8,hk];exact(zbf (z44 hp)).trans (by rw[ex])
     have co:=zt3 K mm hd2;exact⟨n,us,md,g,zo6 us.length,zzu K sb (ju rfl (head (ze (zk ((cnd 1).trans (fl (b:=true) c1))) (ze (zk ((cnd 2).trans (fl (b:=true) c2))) (ze (zk (cin.trans (fl (b:=true) c3))) (ze (zk ((ce 5).trans (fl (b:=true) c5))) (ze (zk ((ce 6).trans (fl (b:=true) c6))) (qu (zy ((zd0 ((ce 7).trans (tr (b:=true) e7)) c7).trans (tr (b:=true) e8)) (ze (zmx (qs (e_v rfl) (e_2 (e_2 (e_v rfl) e_k (zhh (by decide))) (e_a (a_c (e_v rfl) a_n) (d:=.int (ks.length:Int)) (by simp[y9,hk])) cp) hix)) (ze (jf (qo (e_v rfl) (qx K.s) ztz (a_c (e_v rfl) a_n) co)) (zq (jo (a_c (zdi (e_v rfl)) (a_c (jo (a_c e_k (a_c (e_a (a_c (e_v rfl) a_n) rfl) a_n)) (z4z rfl)) a_n)) (z4z rfl)))))))))))))) mm q (.back (a:=ts.length) _ (by omega)),mm,.back _ (by omega),.inr (.inr lu)⟩
   · exact put ((zd0 ((ce 7).trans (tr (b:=true) e7)) c7).trans (fl (b:=true) e8))
 · exact put (zau ((ce 7).trans (fl (b:=true) e7)))
end Pg
namespace Pg
open PySem L2 F Mt
variable {d d0 l r t x y o st v:D}{ts us dl ks rt ws:List D}{h i j g rh w:Nat}{n m0 k0:Int}{S S0 S1 T T1 J:Sto}{ev:Ev}{p m:Nat}{c:Str}{b:Bool}
theorem zqj{c txt nm:Str}{a:As}{ds:List D}{ps:List PyData}(h:a ev S=some ([.tup ds],S1))(hp:zlr ds=some ps)(ho:zcv txt ps=true):zgy c txt nm a ev S=some (c,S1++[.xd nm (.tup ds)]):=by simp only[zgy,h,Option.bind_some,hp,z5o ho]
theorem zkh{c:B}{a b:C}(h:c ev S=some (true,S1))(q:a ev S1=none):sIf c a b ev S=none:=by simp[sIf,h,q]
theorem ztm{c:B}{a b:C}(h:c ev S=some (false,S1))(q:b ev S1=none):sIf c a b ev S=none:=by simp[sIf,h,q]
theorem zmh{f g:E}{q:D×Sto}(h:f ev S=some q):zay f g ev S=some q:=by simp[zay,h]
theorem zf1{f g:E}(h:f ev S=none):zay f g ev S=g ev S:=by simp[zay,h]
theorem j6{c c' m:Str}{g:G}{a:As}{q:Nat}{fs:List (Str×D)}(he:ev[q]? = some (some (.obj i)))(h:S[i]? = some (.ins c' fs))(hc:c'≠c):zw c m g (eV q) a ev S=none:=by
 have e:yo c S (.obj i)=none:=by simp[yo,h,hc]
 simp[zw,e_v he,e]
theorem zbo{c c' m:Str}{g:GR}{a:As}{q:Nat}{fs:List (Str×D)}(he:ev[q]? = some (some (.obj i)))(h:S[i]? = some (.ins c' fs))(hc:c'≠c):zch c m g (eV q) a ev S=none:=by
 have e:yo c S (.obj i)=none:=by simp[yo,h,hc]
 simp[zch,e_v he,e]
def kfs(s:Nat)(d:D)(m k:Int):List (Str×D):=[("shelf",.obj s),("stood",d),("met",.int m),("mark",.int k)]
def wkr(c:Str)(s:Nat)(d:D)(m k:Int):MO:=.ins c (kfs s d m k)
variable {s:Nat}
theorem zv(h:S[i]? = some (wkr c s d m0 k0)):yo c S (.obj i)=some (i,kfs s d m0 k0):=by simp[yo,h,wkr]
theorem wn1:(("stood":Str)=="shelf")=false:=by decide +kernel
theorem wn2:(("met":Str)=="shelf")=false:=by decide +kernel
theorem wn3:(("met":Str)=="stood")=false:=by decide +kernel
theorem wn4:(("mark":Str)=="shelf")=false:=by decide +kernel
theorem wn5:(("mark":Str)=="stood")=false:=by decide +kernel
theorem wn6:(("mark":Str)=="met")=false:=by decide +kernel
theorem zkx:(kfs s d m0 k0).lookup ("shelf":Str)=some (.obj s):=by simp[kfs,List.lookup]
theorem zkw:(kfs s d m0 k0).lookup ("stood":Str)=some d:=by simp[kfs,List.lookup,wn1]
theorem zsn:(kfs s d m0 k0).lookup ("met":Str)=some (.int m0):=by simp[kfs,List.lookup,wn2,wn3]
theorem zg3:(kfs s d m0 k0).lookup ("mark":Str)=some (.int k0):=by simp[kfs,List.lookup,wn4,wn5,wn6]
theorem zrc{m:Str}(h1:(m=="shelf")=false)(h2:(m=="stood")=false)(h3:(m=="met")=false)(h4:(m=="mark")=false):(kfs s d m0 k0).lookup m=none:=by simp[kfs,List.lookup,h1,h2,h3,h4]
theorem zdv:(kfs s d m0 k0).lookup ("row":Str)=none:=zrc (by decide +kernel) (by decide +kernel) (by decide +kernel) (by decide +kernel)
theorem ze3:(kfs s d m0 k0).lookup ("more":Str)=none:=zrc (by decide +kernel) (by decide +kernel) (by decide +kernel) (by decide +kernel)
theorem zal:(kfs s d m0 k0).lookup ("step":Str)=none:=zrc (by decide +kernel) (by decide +kernel) (by decide +kernel) (by decide +kernel)
theorem z2a:(kfs s d m0 k0).lookup ("new_deeds":Str)=none:=zrc (by decide +kernel) (by decide +kernel) (by decide +kernel) (by decide +kernel)
theorem nm1:¬ (("shelf":Str)="stood"):=by decide +kernel
theorem nm2:¬ (("shelf":Str)="met"):=by decide +kernel
theorem nm3:¬ (("stood":Str)="met"):=by decide +kernel
theorem nm4:¬ (("shelf":Str)="mark"):=by decide +kernel
theorem nm5:¬ (("stood":Str)="mark"):=by decide +kernel
theorem nm6:¬ (("met":Str)="mark"):=by decide +kernel
theorem zqk{k1:Int}:zci "mark" (.int k1) (kfs s d m0 k0)=kfs s d m0 k1:=by simp[kfs,zci,nm4,nm5,nm6]
theorem zuc{m1:Int}:zci "met" (.int m1) (kfs s d m0 k0)=kfs s d m1 k0:=by simp[kfs,zci,nm2,nm3]
theorem zll{e:E}{q:Nat}{fs:List (Str×D)}{f:Str}(he:ev[q]? = some (some (.obj w)))(hv:e ev S=some (x,S1))(h:S1[w]? = some (.ins c fs))(hl:fs.length<1000):jm c f (eV q) e ev S=some (.nx ev,S1.set w (.ins c (zci f x fs))):=by
 have hi:yo c S1 (.obj w)=some (w,fs):=by simp[yo,h]
 simp only[jm,hv,Option.bind_some,e_v he,hi,z5o hl]
theorem zab{q:Nat}(he:ev[q]? = some (some (.obj w)))(h:S[w]? = some (wkr c s d m0 k0)):yj c "mark" (eV q) ev S=some (.int k0,S):=zb8 (e_v he) (zv h) zg3
theorem zgp{e:E}{q:Nat}{k1:Int}(he:ev[q]? = some (some (.obj w)))(hv:e ev S=some (.int k1,S))(h:S[w]? = some (wkr c s d m0 k0)):jm c "mark" (eV q) e ev S=some (.nx ev,S.set w (wkr c s d m0 k1)):=by have:=zll (f:="mark") he hv h (show 4<1000 by decide);rw[zqk]at this;exact this
theorem zwz{e:E}{q:Nat}{m1:Int}(he:ev[q]? = some (some (.obj w)))(hv:e ev S=some (.int m1,S))(h:S[w]? = some (wkr c s d m0 k0)):jm c "met" (eV q) e ev S=some (.nx ev,S.set w (wkr c s d m1 k0)):=by have:=zll (f:="met") he hv h (show 4<1000 by decide);rw[zuc]at this;exact this
def zpj(c:Str):C:=(zt (jm c "shelf" (eV 0) (eV 1)) (zt (jm c "stood" (eV 0) (zw "Shelf" "make" qg (eV 1) aN)) (zt (jm c "met" (eV 0) (eA y9 (aC (zw "Shelf" "deeds" je (eV 1) aN) aN))) (jm c "mark" (eV 0) (eK (.int 0))))))
theorem zrt(K:Lk T i j n d dl):zu 2 2 (zpj c) [.obj T.length,.obj i] (T++[.ins c []])=some (.non,T++[wkr c i d dl.length 0]):=by
 have K1:∀fs:List (Str×D),Lk (T++[.ins c fs]) i j n d dl:=fun fs=>K.app _;have at_:∀fs:List (Str×D),(T++[MO.ins c fs])[T.length]? = some (.ins c fs):=fun fs=>by simp
 have set_:∀(fs:List (Str×D)) (z:MO),(T++[MO.ins c fs]).set T.length z=T++[z]:=fun fs z=>by simp
 have a1:=zll (ev:=[some (.obj T.length),some (.obj i)]) (q:=0) (e:=eV 1) (f:="shelf") (w:=T.length) rfl (e_v rfl) (at_ []) (show 0<1000 by decide);rw[set_]at a1;have a2:=zll (ev:=[some (.obj T.length),some (.obj i)]) (q:=0) (e:=zw "Shelf" "make" qg (eV 1) aN) (f:="stood") (w:=T.length) rfl (zia rfl (K1 (zci "shelf" (.obj i) [])).s) (at_ _) (show 1<1000 by decide);rw[set_]at a2;have a3:=zll (ev:=[some (.obj T.length),some (.obj i)]) (q:=0) (e:=eA y9 (aC (zw "Shelf" "deeds" je (eV 1) aN) aN)) (f:="met") (w:=T.length) rfl (e_a (a_c (zvs rfl (K1 (zci "stood" d (zci "shelf" (.obj i) []))).s (K1 _).l) a_n) (d:=.int (dl.length:Int)) rfl) (at_ _) (by simp[zci,nm1]);rw[set_]at a3;have a4:=zll (ev:=[some (.obj T.length),some (.obj i)]) (q:=0) (e:=eK (.int 0)) (f:="mark") (w:=T.length) (S:=T++[MO.ins c (zci "met" (.int (dl.length:Int)) (zci "stood" d (zci "shelf" (.obj i) [])))]) rfl e_k (at_ _) (by simp[zci,nm1,nm2,nm3]);rw[set_]at a4;have ef:zci "mark" (.int 0) (zci "met" (.int (dl.length:Int)) (zci "stood" d (zci "shelf" (.obj i) [])))=kfs i d dl.length 0:=by simp[zci,kfs,nm1,nm2,nm3,nm4,nm5,nm6]
 rw[ef]at a4;exact zme rfl (ze a1 (ze a2 (ze a3 a4)))
theorem zoa{G:G}{f:E}(hG:G=zu 2 2 (zpj c))(K:Lk T i j n d dl)(hf:f ev T=some (.obj i,T)):zbe c G (aC f aN) ev T=some (.obj T.length,T++[wkr c i d dl.length 0]):=by subst hG;simp only[zbe,a_c hf a_n,Option.bind_some,zrt K]
def cls:Nat->Str
 |0=>"AsItStood"
 |1=>"AsItStands"
 |_=>"Strict"
theorem zr1(K:Lk T i j n d dl)(hw:w<3):xx [.obj i,.int w] T=some (.obj T.length,T++[wkr (cls w) i d dl.length 0]):=by
 have k0:km=zu 2 2 (zpj "AsItStood"):=rfl;have k1:x6=zu 2 2 (zpj "AsItStands"):=rfl;have k2:yr=zu 2 2 (zpj "Strict"):=rfl
 match w,hw with
 |0,_=>exact ju rfl (qu (zy (qp (e_2 (e_v rfl) e_k (zfc _ _))) (zq (zoa k0 K (e_v rfl)))))
 |1,_=>exact ju rfl (ze (zk (qp (e_2 (e_v rfl) e_k (zfc _ _)))) (qu (zy (qp (e_2 (e_v rfl) e_k (zfc _ _))) (zq (zoa k1 K (e_v rfl))))))
 |2,_=>exact ju rfl (ze (zk (qp (e_2 (e_v rfl) e_k (zfc _ _)))) (ze (zk (qp (e_2 (e_v rfl) e_k (zfc _ _)))) (zq (zoa k2 K (e_v rfl)))))
def mvI(p:Int):D->Int
 | .tup [.str z,.int a]=>if z=Str.ofString "put" then (if a<p then p+1 else p)else if z=Str.ofString "out" then (if a<p then p-1 else p)else if z=Str.ofString "cut" then (if a<p then a else p)else if z=Str.ofString "back" then a else p
 | .tup [.str z,.int a,.int e]=>if a<p/\p<e then e else p
 |_=>p
end Pg
namespace Pg
open PySem L2 F Mt
variable {d d0 l r t x y o st v:D}{ts us dl ks rt ws:List D}{h i j g rh w:Nat}{n m0 k0:Int}{S S0 S1 T T1 J:Sto}{ev:Ev}{p m:Nat}{c:Str}{b:Bool}{s:Nat}
theorem zgf(a b:Str):ki (.str a) (.str b)=some (.bl (decide (a=b))):=by show(some (eqV (.str a) (.str b))).map D.bl=_;simp only[eqV,Option.map_some];congr 2
inductive Dd:D->Prop
 |two (z:Str) (a:Int):z≠Str.ofString "turned"->Dd (.tup [.str z,.int a])
 |three (a e:Int):Dd (.tup [.str (Str.ofString "turned"),.int a,.int e])
theorem Mv.dd{a b:Nat}{v:D}(mv:Mv a b v):Dd v:=by
 cases mv with
 |turn p q h1 h2=>exact .three _ _
 |out p hp=>exact .two _ _ (by decide +kernel)
 |swap p hp=>exact .two _ _ (by decide +kernel)
 |laid q hq=>exact .two _ _ (by decide +kernel)
 |cut p hp=>exact .two _ _ (by decide +kernel)
 |back q hq=>exact .two _ _ (by decide +kernel)
 |put p hp=>exact .two _ _ (by decide +kernel)
theorem ix0{ds:List D}:z8 S (.tup (x::ds)) (.int 0)=some x:=zbf (xs:=x::ds) (j:=0) rfl
theorem ix1{ds:List D}:z8 S (.tup (x::y::ds)) (.int 1)=some y:=zbf (xs:=x::y::ds) (j:=1) rfl
theorem ix2{ds:List D}:z8 S (.tup (x::y::t::ds)) (.int 2)=some t:=zbf (xs:=x::y::t::ds) (j:=2) rfl
theorem zdt{u1 u2:B}{q1 q2:Bool}(h1:u1 ev S=some (q1,S))(h2:u2 ev S=some (q2,S)):zca u1 u2 ev S=some (q1&&q2,S):=by
 cases q1 with
 |true=>exact zd0 h1 h2
 |false=>exact zau h1
theorem z1w{u1 u2:B}{q1 q2:Bool}(h1:u1 ev S=some (q1,S))(h2:u2 ev S=some (q2,S)):bOr u1 u2 ev S=some (q1||q2,S):=by
 cases q1 with
 |true=>exact z22 h1
 |false=>exact z23 h1 h2
theorem zgq{u:B}{q:Bool}{f:E}{z:D}{k:C}{r:Out×Sto}(h:u ev S=some (q,S))(hf:q=true->f ev S=some (z,S)/\r=(.rt z,S))(hk:q=false->k ev S=some r):zt (sIf u (qz f) jz) k ev S=some r:=by
 cases q with
 | true=>
   obtain⟨a,b⟩:=hf rfl;rw[b];exact qu (zy h (zq a))
 |false=>exact ze (zk h) (hk rfl)
theorem zn4{p:Int}{z:Str}{a:Int}:mvI p (.tup [.str z,.int a])=if z=Str.ofString "put" then (if a<p then p+1 else p)else if z=Str.ofString "out" then (if a<p then p-1 else p)else if z=Str.ofString "cut" then (if a<p then a else p)else if z=Str.ofString "back" then a else p:=rfl
theorem zq3{p:Int}(hv:Dd v)(S:Sto):zg6 [.int p,v] S=some (.int (mvI p v),S):=by
 cases hv with
 | two z a hz=>
   have e1:∀q:Str,bE (e2 ki (eV 2) (eK (.str q))) [some (.int p),some (.tup [.str z,.int a]),some (.str z)] S=some (decide (z=q),S):=fun q=>qp (e_2 (e_v rfl) e_k (zgf _ _));have e2':bE (e2 zai (e2s z8 (eV 1) (eK (.int 1))) (eV 0)) [some (.int p),some (.tup [.str z,.int a]),some (.str z)] S=some (decide (a<p),S):=qp (e_2 (qs (e_v rfl) e_k ix1) (e_v rfl) (zq6 _ _));refine ju rfl (ze (zl (qs (e_v rfl) e_k ix0)) ?_);refine zgq (z:=.int (p+1)) (zdt (e1 _) e2') (fun q=>?_) fun q1=>?_
   · rw[z5k,z5b,z5b]at q;exact⟨e_2 (e_v rfl) e_k (add_int _ _),by simp[mvI,q.1,q.2]⟩
   refine zgq (z:=.int (p-1)) (zdt (e1 _) e2') (fun q=>?_) fun q2=>?_
   · rw[z5k,z5b,z5b]at q;have n1:¬ (z=Str.ofString "put"):=by rw[q.1];decide +kernel
     exact⟨e_2 (e_v rfl) e_k (sub_int _ _),by simp only[mvI,z5l n1,z5o q.1,z5o q.2]⟩
   refine ze (zk (zau ((e1 _).trans (by rw[z47 hz])))) ?_;refine zgq (z:=.int a) (zdt (e1 _) e2') (fun q=>?_) fun q4=>?_
   · rw[z5k,z5b,z5b]at q;have n1:¬ (z=Str.ofString "put"):=by rw[q.1];decide +kernel
     have n2:¬ (z=Str.ofString "out"):=by rw[q.1];decide +kernel
     exact⟨qs (e_v rfl) e_k ix1,by simp only[mvI,z5l n1,z5l n2,z5o q.1,z5o q.2]⟩
   refine zgq (z:=.int a) (e1 _) (fun q=>?_) fun q5=>?_
   · rw[z5b]at q;have n1:¬ (z=Str.ofString "put"):=by rw[q];decide +kernel
     have n2:¬ (z=Str.ofString "out"):=by rw[q];decide +kernel
     have n3:¬ (z=Str.ofString "cut"):=by rw[q];decide +kernel
     exact⟨qs (e_v rfl) e_k ix1,by simp only[mvI,z5l n1,z5l n2,z5l n3,z5o q]⟩
   refine(zq (e_v rfl)).trans ?_;simp only[z71,z6s]at q1 q2 q4 q5;congr 3;rw[zn4];split
   · rename_i z1;rw[z5l (q1.resolve_left fun f=>f z1)]
   · split
     · rename_i z1;rw[z5l (q2.resolve_left fun f=>f z1)]
     · split
       · rename_i z1;rw[z5l (q4.resolve_left fun f=>f z1)]
       · first | rfl | rw[z5l q5]
 | three a e=>
   have e1:∀q:Str,Str.ofString "turned"≠q->bE (e2 ki (eV 2) (eK (.str q))) [some (.int p),some (.tup [.str (Str.ofString "turned"),.int a,.int e]),some (.str (Str.ofString "turned"))] S=some (false,S):=fun q hq=>qp (e_2 (e_v rfl) e_k ((zgf _ _).trans (by rw[z47 hq])));have ch:zbu zai zai (e2s z8 (eV 1) (eK (.int 1))) (eV 0) (e2s z8 (eV 1) (eK (.int 2))) [some (.int p),some (.tup [.str (Str.ofString "turned"),.int a,.int e]),some (.str (Str.ofString "turned"))] S=some (.bl (decide (a<p/\p<e)),S):=by
     have c1:e2s z8 (eV 1) (eK (.int 1)) [some (.int p),some (.tup [.str (Str.ofString "turned"),.int a,.int e]),some (.str (Str.ofString "turned"))] S=some (.int a,S):=qs (e_v rfl) e_k ix1;have c2:e2s z8 (eV 1) (eK (.int 2)) [some (.int p),some (.tup [.str (Str.ofString "turned"),.int a,.int e]),some (.str (Str.ofString "turned"))] S=some (.int e,S):=qs (e_v rfl) e_k ix2;have c0:eV 0 [some (.int p),some (.tup [.str (Str.ofString "turned"),.int a,.int e]),some (.str (Str.ofString "turned"))] S=some (.int p,S):=rfl;by_cases h1:a<p
     · by_cases h2:p<e
       · simp only[zbu,c1,c2,c0,Option.bind_some,zai,F.opIB,z49 h1,z49 h2,Option.map_some,z49 (show a<p/\p<e from⟨h1,h2⟩)]
       · simp only[zbu,c1,c2,c0,Option.bind_some,zai,F.opIB,z49 h1,z47 h2,Option.map_some,z47 (show ¬ (a<p/\p<e)from fun q=>h2 q.2)]
     · simp only[zbu,c1,c2,c0,Option.bind_some,zai,F.opIB,z47 h1,z47 (show ¬ (a<p/\p<e)from fun q=>h1 q.1)]
   refine ju rfl (ze (zl (qs (e_v rfl) e_k ix0)) (ze (zk (zau (e1 _ (by decide +kernel)))) (ze (zk (zau (e1 _ (by decide +kernel)))) ?_)));refine zgq (z:=.int e) (zdt (q1:=true) (qp (e_2 (e_v rfl) e_k ((zgf _ _).trans (by rw[z49 rfl])))) (qp ch)) (fun q=>?_) fun q=>?_
   · rw[z7p,z5b]at q;exact⟨qs (e_v rfl) e_k ix2,by simp only[mvI,z5o q]⟩
   · rw[z7p,z6s]at q;refine(ze (zk (zau (e1 _ (by decide +kernel)))) (ze (zk (e1 _ (by decide +kernel))) (zq (e_v rfl)))).trans ?_;simp only[mvI,z5l q]
theorem zq9{p:Int}(hv:Dd v)(S:Sto):zbb [.int p,v] S=some (.int (mvI p v),S):=by
 cases hv with
 | two z a hz=>
   have e1:∀q:Str,bE (e2 ki (e2s z8 (eV 1) (eK (.int 0))) (eK (.str q))) [some (.int p),some (.tup [.str z,.int a])] S=some (decide (z=q),S):=fun q=>qp (e_2 (qs (e_v rfl) e_k ix0) e_k (zgf _ _));have e2':bE (e2 zai (e2s z8 (eV 1) (eK (.int 1))) (eV 0)) [some (.int p),some (.tup [.str z,.int a])] S=some (decide (a<p),S):=qp (e_2 (qs (e_v rfl) e_k ix1) (e_v rfl) (zq6 _ _));refine ju rfl ?_;refine zgq (z:=.int (p+1)) (zdt (e1 _) e2') (fun q=>?_) fun q1=>?_
   · rw[z5k,z5b,z5b]at q;exact⟨e_2 (e_v rfl) e_k (add_int _ _),by simp[mvI,q.1,q.2]⟩
   refine zgq (z:=.int (p-1)) (zdt (e1 _) e2') (fun q=>?_) fun q2=>?_
   · rw[z5k,z5b,z5b]at q;have n1:¬ (z=Str.ofString "put"):=by rw[q.1];decide +kernel
     exact⟨e_2 (e_v rfl) e_k (sub_int _ _),by simp only[mvI,z5l n1,z5o q.1,z5o q.2]⟩
   refine ze (zk (zau ((e1 _).trans (by rw[z47 hz])))) ?_;refine zgq (z:=.int a) (z1w (zdt (e1 _) e2') (e1 _)) (fun q=>?_) fun q4=>?_
   · rw[z8z,z5k,z5b,z5b,z5b]at q;refine⟨qs (e_v rfl) e_k ix1,?_⟩;rcases q with q | q
     · have n1:¬ (z=Str.ofString "put"):=by rw[q.1];decide +kernel
       have n2:¬ (z=Str.ofString "out"):=by rw[q.1];decide +kernel
       simp only[mvI,z5l n1,z5l n2,z5o q.1,z5o q.2]
     · have n1:¬ (z=Str.ofString "put"):=by rw[q];decide +kernel
       have n2:¬ (z=Str.ofString "out"):=by rw[q];decide +kernel
       have n3:¬ (z=Str.ofString "cut"):=by rw[q];decide +kernel
       simp only[mvI,z5l n1,z5l n2,z5l n3,z5o q]
   refine(zq (e_v rfl)).trans ?_;simp only[z71,Bool.or_eq_false_iff,z6s]at q1 q2 q4;congr 3;rw[zn4];split
   · rename_i z1;rw[z5l (q1.resolve_left fun f=>f z1)]
   · split
     · rename_i z1;rw[z5l (q2.resolve_left fun f=>f z1)]
     · split
       · rename_i z1;rw[z5l (q4.1.resolve_left fun f=>f z1)]
       · first | rfl | rw[z5l q4.2]
 | three a e=>
   have e1:∀q:Str,Str.ofString "turned"≠q->bE (e2 ki (e2s z8 (eV 1) (eK (.int 0))) (eK (.str q))) [some (.int p),some (.tup [.str (Str.ofString "turned"),.int a,.int e])] S=some (false,S):=fun q hq=>qp (e_2 (qs (e_v rfl) e_k ix0) e_k ((zgf _ _).trans (by rw[z47 hq])));have l1:bE (e2 zai (e2s z8 (eV 1) (eK (.int 1))) (eV 0)) [some (.int p),some (.tup [.str (Str.ofString "turned"),.int a,.int e])] S=some (decide (a<p),S):=qp (e_2 (qs (e_v rfl) e_k ix1) (e_v rfl) (zq6 _ _));have l2:bE (e2 zai (eV 0) (e2s z8 (eV 1) (eK (.int 2)))) [some (.int p),some (.tup [.str (Str.ofString "turned"),.int a,.int e])] S=some (decide (p<e),S):=qp (e_2 (e_v rfl) (qs (e_v rfl) e_k ix2) (zq6 _ _));refine ju rfl (ze (zk (zau (e1 _ (by decide +kernel)))) (ze (zk (zau (e1 _ (by decide +kernel)))) ?_));refine zgq (z:=.int e) (zdt (q1:=true) (qp (e_2 (qs (e_v rfl) e_k ix0) e_k ((zgf _ _).trans (by rw[z49 rfl])))) (zdt l1 l2)) (fun q=>?_) fun q=>?_
   · rw[z7p,z5k,z5b,z5b]at q;exact⟨qs (e_v rfl) e_k ix2,by simp only[mvI,z5o q]⟩
   · rw[z7p,z71,z6s,z6s]at q;have nq:¬ (a<p/\p<e):=fun z=>q.elim (fun f=>f z.1) fun f=>f z.2;refine(ze (zk (z1w (q1:=false) (zau (e1 _ (by decide +kernel))) (e1 _ (by decide +kernel)))) (zq (e_v rfl))).trans ?_;simp only[mvI,z5l nq]
theorem zyk{a b:Nat}{v:D}(mv:Mv a b v){p:Int}(h0:0<=p)(h1:p<=a):0<=mvI p v/\mvI p v<=b:=by
 have k1:¬ (Str.ofString "out"=Str.ofString "put"):=by decide +kernel
 have k2:¬ (Str.ofString "swap"=Str.ofString "put"):=by decide +kernel
 have k3:¬ (Str.ofString "swap"=Str.ofString "out"):=by decide +kernel
 have k4:¬ (Str.ofString "swap"=Str.ofString "cut"):=by decide +kernel
 have k5:¬ (Str.ofString "swap"=Str.ofString "back"):=by decide +kernel
 have k6:¬ (Str.ofString "laid"=Str.ofString "put"):=by decide +kernel
 have k7:¬ (Str.ofString "laid"=Str.ofString "out"):=by decide +kernel
 have k8:¬ (Str.ofString "laid"=Str.ofString "cut"):=by decide +kernel
 have k9:¬ (Str.ofString "laid"=Str.ofString "back"):=by decide +kernel
 have k10:¬ (Str.ofString "cut"=Str.ofString "put"):=by decide +kernel
 have k11:¬ (Str.ofString "cut"=Str.ofString "out"):=by decide +kernel
 have k12:¬ (Str.ofString "back"=Str.ofString "put"):=by decide +kernel
 have k13:¬ (Str.ofString "back"=Str.ofString "out"):=by decide +kernel
 have k14:¬ (Str.ofString "back"=Str.ofString "cut"):=by decide +kernel
 cases mv with
 | out p hp=>
   simp only[zwe,mvI,z5l k1,z64];split<;>omega
 | swap p hp=>
   simp only[zl9,mvI,z5l k2,z5l k3,z5l k4,z5l k5];omega
 | turn p q h1 h2=>
   simp only[zl8,mvI];split<;>omega
 | laid q hq=>
   simp only[zd5,mvI,z5l k6,z5l k7,z5l k8,z5l k9];omega
 | cut p hp=>
   simp only[zju,mvI,z5l k10,z5l k11,z64];split<;>omega
 | back q hq=>
   simp only[zo6,mvI,z5l k12,z5l k13,z5l k14,z64];omega
 | put p hp=>
   simp only[zsy,mvI,z64];split<;>omega
end Pg
namespace Pg
open PySem L2 F Mt
variable {d d0 l r t x y o st v:D}{ts us dl ks rt ws:List D}{h i j g rh w:Nat}{n m0 k0:Int}{S S0 S1 T T1 J:Sto}{ev:Ev}{p m:Nat}{c:Str}{b:Bool}{s:Nat}
theorem z4l(w c:Int):zi9 (.int w) (.int c)=some (.bl (decide (c<=w))):=rfl
theorem z0r(a b:Nat):zai (.int (a:Int)) (.int (b:Int))=some (.bl (decide (a<b))):=by rw[zq6];congr 2;rw[z6h];omega
theorem zrh(a b:Nat):zi9 (.int (a:Int)) (.int (b:Int))=some (.bl (decide (b<=a))):=by rw[z4l];congr 2;rw[z6h];omega
theorem z0m{q:Nat}(he:ev[q]? = some (some (.obj w)))(h:T[w]? = some (wkr "AsItStood" i st m0 k0)):zw "AsItStood" "row" x4 (eV q) aN ev T=some (st,T) :=
 qo (e_v he) (zv h) zdv a_n (ju rfl (zq (zb8 (e_v rfl) (zv h) zkw)))
theorem z12(h:T[w]? = some (wkr "AsItStood" i st m0 p))(mk:Mk 0 st ws g):ko [.obj w] T=some (.bl (decide (p<ws.length)),T) :=
 ju rfl (ze (zl (z0m rfl h)) (zq (e_2 (zb8 (e_v rfl) (zv h) zg3) (zi (a_c (e_v rfl) a_n) (q9 mk _)) (z0r _ _))))
theorem z1b(h:T[w]? = some (wkr "AsItStood" i st m0 p))(mk:Mk 0 st ws g)(hl:ws.length<=2000)(hp:p<ws.length):xm [.obj w] T=some (ws[p],T.set w (wkr "AsItStood" i st m0 (p+1:Nat))) :=
 ju rfl (ze (zl (z0m rfl h)) (ze (zk (qp (e_2 (zab rfl h) (zi (a_c (e_v rfl) a_n) (q9 mk _)) ((zrh _ _).trans (by rw[z47 (by omega)]))))) (ze (zl (zi (a_c (e_v rfl) (a_c (zab rfl h) a_n)) (zr2 mk hl (z44 hp) _))) (ze (zgp rfl (e_2 (zab rfl h) e_k (add_int _ _)) h) (zq (e_v rfl))))))
theorem zwy(h:T[w]? = some (wkr "AsItStood" i st m0 p))(mk:Mk 0 st ws g)(hp:ws.length<=p):xm [.obj w] T=none :=
 zgj (zcs (zl (z0m rfl h)) (zb2 (zea (qp (e_2 (zab rfl h) (zi (a_c (e_v rfl) a_n) (q9 mk _)) ((zrh _ _).trans (by rw[z49 (by omega)])))))))
theorem zwx(h:T[w]? = some (wkr "AsItStood" i st m0 p))(mk:Mk 0 st ws g)(hp:ws.length<=p):jv [.obj w] T=some (Str.ofString "NoMore",T) :=
 (zes (n:=1) rfl).trans ((znn (zl (z0m rfl h))).trans ((zf5 (qp (e_2 (zab rfl h) (zi (a_c (e_v rfl) a_n) (q9 mk _)) ((zrh _ _).trans (by rw[z49 (by omega)]))))).trans (zjh (a_c e_k a_n) (z4z rfl))))
theorem z1z{G:G}(hG:G=zu 1 1 (qz (eSl (zw "Shelf" "deeds" je (yj c "shelf" (eV 0)) aN) (pE (yj c "met" (eV 0))) pN)))(K:Lk T i j n d dl)(h:T[w]? = some (wkr c i st m k0))(hm:m<=dl.length):G [.obj w] T=some (.lst (dl.drop m),T):=by subst hG;exact ju rfl (zq (zmk (qo (zb8 (e_v rfl) (zv h) zkx) (qx K.s) zki a_n (ju rfl (zq (zod (zb8 (e_v rfl) (qx K.s) zjf) K.l)))) (p_e (zb8 (e_v rfl) (zv h) zsn)) p_n (zdf hm)))
theorem zyi{G:G}{q:Nat}(hG:G=zu 1 1 (qz (eSl (zw "Shelf" "deeds" je (yj c "shelf" (eV 0)) aN) (pE (yj c "met" (eV 0))) pN)))(he:ev[q]? = some (some (.obj w)))(K:Lk T i j n d dl)(h:T[w]? = some (wkr c i st m k0))(hm:m<=dl.length):zw c "new_deeds" G (eV q) aN ev T=some (.lst (dl.drop m),T) :=
 qo (e_v he) (zv h) z2a a_n (z1z hG K h hm)
theorem zmo(K:Lk T i j n d dl)(h:T[w]? = some (wkr c s st m0 k0))(hc:c≠"Shelf")(hc2:c≠"Wood"):w≠0/\w≠i/\w≠j:=by
 refine⟨fun z=>?_,fun z=>?_,fun z=>?_⟩
 · subst z;rw[K.w]at h;simp only[wd,wkr,z7w,MO.ins.injEq]at h;exact hc2 h.1.symm
 · subst z;rw[K.s]at h;simp only[shf,wkr,z7w,MO.ins.injEq]at h;exact hc h.1.symm
 · subst z;rw[K.l]at h;cases h
theorem lw(K:Lk T i j n d dl)(h:T[w]? = some (wkr "AsItStands" s st m0 k0))(z:MO):Lk (T.set w z) i j n d dl:=by obtain⟨a,b,e⟩:=zmo K h (by decide +kernel) (by decide +kernel);exact K.st z a b e
def mB:C:=(zt (jm "AsItStands" "mark" (eV 0) (zn zg6 (aC (yj "AsItStands" "mark" (eV 0)) (aC (eV 1) aN)))) (jm "AsItStands" "met" (eV 0) (e2 qb (yj "AsItStands" "met" (eV 0)) (eK (.int 1)))))
theorem zym:∀(vs:List D),(∀v∈vs,Dd v)->∀{T:Sto}{m0 k0:Int} (o1:Option D),T[w]? = some (wkr "AsItStands" i st m0 k0)->∃o1',zcx 1 mB vs [some (.obj w),o1] T=some (.nx [some (.obj w),o1'],T.set w (wkr "AsItStands" i st (m0+vs.length) (vs.foldl mvI k0)))
 | [],_,T,m0,k0,o1,h=>⟨o1,by
   show some (Out.nx [some (.obj w),o1],T)=_;rw[zeb (by rw[h];simp)]⟩
 | v::vs,hv,T,m0,k0,o1,h=>by
   have a1:(T.set w (wkr "AsItStands" i st m0 (mvI k0 v)))[w]? = some (wkr "AsItStands" i st m0 (mvI k0 v)):=kn h;have a2:((T.set w (wkr "AsItStands" i st m0 (mvI k0 v))).set w (wkr "AsItStands" i st (m0+1) (mvI k0 v)))[w]? = some (wkr "AsItStands" i st (m0+1) (mvI k0 v)):=kn a1;obtain⟨o1',lp⟩:=zym vs (fun x hx=>hv x (z5d _ hx)) (some v) a2;refine⟨o1',zoc (ze (zgp rfl (zi (a_c (zab rfl h) (a_c (e_v rfl) a_n)) (zq3 (hv v (z5w ..)) _)) h) (zwz rfl (e_2 (zb8 (e_v rfl) (zv a1) zsn) e_k (add_int _ _)) a1)) (lp.trans ?_)⟩;have e:m0+1+(vs.length:Int)=m0+((vs.length+1:Nat):Int):=by push_cast;omega
   simp only[z8i,List.foldl_cons,List.length_cons,e]
theorem z4e(K:Lk T i j n d dl)(h:T[w]? = some (wkr "AsItStands" i st m k0))(hm:m<=dl.length)(hd:∀v∈dl,Dd v):jw [.obj w] T=some (d,T.set w (wkr "AsItStands" i st dl.length ((dl.drop m).foldl mvI k0))):=by obtain⟨o1,lp⟩:=zym (w:=w) (i:=i) (st:=st) (dl.drop m) (fun x hx=>hd x (List.mem_of_mem_drop hx)) none h;rw[show((m:Int)+(dl.drop m).length:Int)=(dl.length:Int) by rw[z5r];omega]at lp;have K1:=lw K h (wkr "AsItStands" i st dl.length ((dl.drop m).foldl mvI k0));exact ju rfl (ze (zto (b:=mB) (zyi rfl rfl K h hm) lp) (zq (qo (zb8 (e_v rfl) (zv (kn h)) zkx) (qx K1.s) zm6 a_n (zob K1.s))))
theorem zqd{q:Nat}(he:ev[q]? = some (some (.obj w)))(K:Lk T i j n d dl)(h:T[w]? = some (wkr "AsItStands" i st m k0))(hm:m<=dl.length)(hd:∀v∈dl,Dd v):zw "AsItStands" "row" jw (eV q) aN ev T=some (d,T.set w (wkr "AsItStands" i st dl.length ((dl.drop m).foldl mvI k0))) :=
 qo (e_v he) (zv h) zdv a_n (z4e K h hm hd)
theorem z11(K:Lk T i j n d dl)(h:T[w]? = some (wkr "AsItStands" i st m k0))(hm:m<=dl.length)(hd:∀v∈dl,Dd v)(hp:(dl.drop m).foldl mvI k0=(p:Int))(mk:Mk 0 d ts g):kg [.obj w] T=some (.bl (decide (p<ts.length)),T.set w (wkr "AsItStands" i st dl.length p)):=by have rw_:=zqd (ev:=[some (.obj w),none]) (q:=0) rfl K h hm hd;rw[hp]at rw_;exact ju rfl (ze (zl rw_) (zq (e_2 (zb8 (e_v rfl) (zv (kn h)) zg3) (zi (a_c (e_v rfl) a_n) (q9 mk _)) (z0r _ _))))
theorem z1a(K:Lk T i j n d dl)(h:T[w]? = some (wkr "AsItStands" i st m k0))(hm:m<=dl.length)(hd:∀v∈dl,Dd v)(hp:(dl.drop m).foldl mvI k0=(p:Int))(mk:Mk 0 d ts g)(hl:ts.length<=2000)(hlt:p<ts.length):j8 [.obj w] T=some (ts[p],T.set w (wkr "AsItStands" i st dl.length (p+1:Nat))):=by have rw_:=zqd (ev:=[some (.obj w),none,none]) (q:=0) rfl K h hm hd;rw[hp]at rw_;have h1:(T.set w (wkr "AsItStands" i st dl.length p))[w]? = some (wkr "AsItStands" i st dl.length p):=kn h;have s1:=zgp (ev:=[some (.obj w),some d,some ts[p]]) (q:=0) (e:=e2 qb (yj "AsItStands" "mark" (eV 0)) (eK (.int 1))) (k1:=((p+1:Nat):Int)) rfl (e_2 (zab rfl h1) e_k (add_int _ _)) h1;rw[z8i]at s1;exact ju rfl (ze (zl rw_) (ze (zk (qp (e_2 (zab rfl h1) (zi (a_c (e_v rfl) a_n) (q9 mk _)) ((zrh _ _).trans (by rw[z47 (by omega)]))))) (ze (zl (zi (a_c (e_v rfl) (a_c (zab rfl h1) a_n)) (zr2 mk hl (z44 hlt) _))) (ze s1 (zq (e_v rfl))))))
theorem zww(K:Lk T i j n d dl)(h:T[w]? = some (wkr "AsItStands" i st m k0))(hm:m<=dl.length)(hd:∀v∈dl,Dd v)(hp:(dl.drop m).foldl mvI k0=(p:Int))(mk:Mk 0 d ts g)(hlt:ts.length<=p):j8 [.obj w] T=none:=by have rw_:=zqd (ev:=[some (.obj w),none,none]) (q:=0) rfl K h hm hd;rw[hp]at rw_;have h1:(T.set w (wkr "AsItStands" i st dl.length p))[w]? = some (wkr "AsItStands" i st dl.length p):=kn h;exact zgj (zcs (zl rw_) (zb2 (zea (qp (e_2 (zab rfl h1) (zi (a_c (e_v rfl) a_n) (q9 mk _)) ((zrh _ _).trans (by rw[z49 (by omega)])))))))
theorem zwv(K:Lk T i j n d dl)(h:T[w]? = some (wkr "AsItStands" i st m k0))(hm:m<=dl.length)(hd:∀v∈dl,Dd v)(hp:(dl.drop m).foldl mvI k0=(p:Int))(mk:Mk 0 d ts g)(hlt:ts.length<=p):jq [.obj w] T=some (Str.ofString "NoMore",T.set w (wkr "AsItStands" i st dl.length p)):=by have rw_:=zqd (ev:=[some (.obj w),none,none]) (q:=0) rfl K h hm hd;rw[hp]at rw_;have h1:(T.set w (wkr "AsItStands" i st dl.length p))[w]? = some (wkr "AsItStands" i st dl.length p):=kn h;exact(zes (n:=1) rfl).trans ((znn (zl rw_)).trans ((zf5 (qp (e_2 (zab rfl h1) (zi (a_c (e_v rfl) a_n) (q9 mk _)) ((zrh _ _).trans (by rw[z49 (by omega)]))))).trans (zjh (a_c e_k a_n) (z4z rfl))))
theorem zkv(us:List D)(S:Sto):e2 zfq (eA y9 (aC (eV 1) aN)) (eK (.int 0)) [some x,some (.lst us)] S=some (.bl (decide (0<us.length)),S):=by refine e_2 (e_a (a_c (e_v rfl) a_n) (d:=.int (us.length:Int)) rfl) e_k ?_;rw[z3r];congr 2;rw[z6h];omega
theorem z4d(K:Lk T i j n d dl)(h:T[w]? = some (wkr "Strict" i st m k0))(hm:m=dl.length):xz [.obj w] T=some (st,T):=by have nd:=zyi (G:=jd) (ev:=[some (.obj w),none]) (q:=0) rfl rfl K h (z8v hm);rw[show dl.drop m=[] by rw[hm,z8t]]at nd;exact ju rfl (ze (zl nd) (ze (zk (qp (zkv [] _))) (zq (zb8 (e_v rfl) (zv h) zkw))))
theorem zqc{q:Nat}(he:ev[q]? = some (some (.obj w)))(K:Lk T i j n d dl)(h:T[w]? = some (wkr "Strict" i st m k0))(hm:m=dl.length):zw "Strict" "row" xz (eV q) aN ev T=some (st,T):=qo (e_v he) (zv h) zdv a_n (z4d K h hm)
theorem z1i(K:Lk T i j n d dl)(h:T[w]? = some (wkr "Strict" i st m k0))(hm:m=dl.length):j9 [.obj w] T=none:=by have nd:=zyi (G:=jd) (ev:=[some (.obj w),none]) (q:=0) rfl rfl K h (z8v hm);rw[show dl.drop m=[] by rw[hm,z8t]]at nd;exact(zes (n:=1) rfl).trans ((znn (zl nd)).trans ((zse (qp (zkv [] _))).trans rfl))
def Shw(v:D):Prop:=∃ds ps,v=.tup ds/\zlr ds=some ps/\zcv (Str.ofString "the shelf has changed: ") ps=true
theorem zsw(hm:m<dl.length)(hv:dl[m]? = some v):dl.drop m=v::dl.drop (m+1):=by rw[z6l hm];rw[z44 hm]at hv;rw[z5s hv]
theorem zxh(K:Lk T i j n d dl)(h:T[w]? = some (wkr "Strict" i st m k0))(hm:m<dl.length):xz [.obj w] T=none:=by have nd:=zyi (G:=jd) (ev:=[some (.obj w),none]) (q:=0) rfl rfl K h (z6t hm);rw[zsw hm (z44 hm)]at nd;exact zgj (zcs (zl nd) (zb2 (zea (qp (zkv _ _)))))
theorem zxg(K:Lk T i j n d dl)(h:T[w]? = some (wkr "Strict" i st m k0))(hm:m<dl.length)(hv:dl[m]? = some v)(sh:Shw v):j9 [.obj w] T=some (Str.ofString "Changed",T++[.xd "deed" v]):=by obtain⟨ds,ps,rfl,h1,h2⟩:=sh;have nd:=zyi (G:=jd) (ev:=[some (.obj w),none]) (q:=0) rfl rfl K h (z6t hm);rw[zsw hm hv]at nd;exact(zes (n:=1) rfl).trans ((znn (zl nd)).trans ((zf5 (qp (zkv _ _))).trans (zqj (a_c (qs (e_v rfl) e_k (show z8 _ (.lst (D.tup ds::dl.drop (m+1))) (.int 0)=some (D.tup ds)from zbf (xs:=D.tup ds::dl.drop (m+1)) (j:=0) rfl)) a_n) h1 h2)))
theorem z10(K:Lk T i j n d dl)(h:T[w]? = some (wkr "Strict" i st m p))(hm:m=dl.length)(mk:Mk 0 st ws g):ye [.obj w] T=some (.bl (decide (p<ws.length)),T) :=
 ju rfl (ze (zl (zqc rfl K h hm)) (zq (e_2 (zb8 (e_v rfl) (zv h) zg3) (zi (a_c (e_v rfl) a_n) (q9 mk _)) (z0r _ _))))
theorem zyo(K:Lk T i j n d dl)(h:T[w]? = some (wkr "Strict" i st m k0))(hm:m<dl.length):ye [.obj w] T=none :=
 zgj (zb2 (zcr (zaj (e_v rfl) (zv h) zdv a_n (zxh K h hm))))
theorem zyn(K:Lk T i j n d dl)(h:T[w]? = some (wkr "Strict" i st m k0))(hm:m<dl.length)(hv:dl[m]? = some v)(sh:Shw v):ka [.obj w] T=some (Str.ofString "Changed",T++[.xd "deed" v]) :=
 (zes (n:=1) rfl).trans ((zdu (e_v rfl) (zv h) zdv a_n).trans (zxg K h hm hv sh))
theorem step2(K:Lk T i j n d dl)(h:T[w]? = some (wkr "Strict" i st m p))(hm:m=dl.length)(mk:Mk 0 st ws g)(hl:ws.length<=2000)(hp:p<ws.length):kf [.obj w] T=some (ws[p],T.set w (wkr "Strict" i st m (p+1:Nat))) :=
 ju rfl (ze (zl (zqc rfl K h hm)) (ze (zk (qp (e_2 (zab rfl h) (zi (a_c (e_v rfl) a_n) (q9 mk _)) ((zrh _ _).trans (by rw[z47 (by omega)]))))) (ze (zl (zi (a_c (e_v rfl) (a_c (zab rfl h) a_n)) (zr2 mk hl (z44 hp) _))) (ze (zgp rfl (e_2 (zab rfl h) e_k (add_int _ _)) h) (zq (e_v rfl))))))
theorem zwu(K:Lk T i j n d dl)(h:T[w]? = some (wkr "Strict" i st m p))(hm:m=dl.length)(mk:Mk 0 st ws g)(hp:ws.length<=p):kf [.obj w] T=none :=
 zgj (zcs (zl (zqc rfl K h hm)) (zb2 (zea (qp (e_2 (zab rfl h) (zi (a_c (e_v rfl) a_n) (q9 mk _)) ((zrh _ _).trans (by rw[z49 (by omega)])))))))
theorem ztj(K:Lk T i j n d dl)(h:T[w]? = some (wkr "Strict" i st m p))(hm:m=dl.length)(mk:Mk 0 st ws g)(hp:ws.length<=p):xf [.obj w] T=some (Str.ofString "NoMore",T) :=
 (zes (n:=1) rfl).trans ((zlq ((zdu (e_v rfl) (zv h) zdv a_n).trans (z1i K h hm))).trans ((znn (zl (zqc rfl K h hm))).trans ((zf5 (qp (e_2 (zab rfl h) (zi (a_c (e_v rfl) a_n) (q9 mk _)) ((zrh _ _).trans (by rw[z49 (by omega)]))))).trans (zjh (a_c e_k a_n) (z4z rfl)))))
theorem zwt(K:Lk T i j n d dl)(h:T[w]? = some (wkr "Strict" i st m k0))(hm:m<dl.length):kf [.obj w] T=none :=
 zgj (zb2 (zcr (zaj (e_v rfl) (zv h) zdv a_n (zxh K h hm))))
theorem zws(K:Lk T i j n d dl)(h:T[w]? = some (wkr "Strict" i st m k0))(hm:m<dl.length)(hv:dl[m]? = some v)(sh:Shw v):xf [.obj w] T=some (Str.ofString "Changed",T++[.xd "deed" v]) :=
 (zes (n:=1) rfl).trans (zt8 ((zdu (e_v rfl) (zv h) zdv a_n).trans (zxg K h hm hv sh)))
end Pg
namespace Pg
open PySem L2 F Mt
variable {d d0 l r t x y o st v:D}{ts us dl ks rt ws:List D}{h i j g rh w:Nat}{n m0 k0:Int}{S S0 S1 T T1 J:Sto}{ev:Ev}{p m:Nat}{c:Str}{b:Bool}{s:Nat}
theorem zjl{q:Nat}(hq:q<10000):((q:Int).natAbs.log2<1920)/\(Str.ofString (toString (q:Int))).length<=20:=by
 obtain⟨f1,l1⟩:=zve hq;refine⟨?_,l1⟩;simp only[z3t]at f1;split at f1
 · assumption
 · cases f1
theorem zm9{z:Str}{ps:List PyData}(h1:(PyData.tuple ps).showable=true)(h2:((PyData.shownAll ps).map (·.length)).sum+2*(PyData.shownAll ps).length<=1000):zcv (Str.ofString "the shelf has changed: ") ps=true:=by
 have e1:(Str.empty++Str.ofString "the shelf has changed: ").length=23:=by decide +kernel
 have e2:=tupleText_len_le (PyData.shownAll ps);unfold zcv;simp only[z5k,z5b];refine⟨⟨h1,by rw[e1,z55];omega⟩,?_⟩;rw[z8o,e1,z55];show 23+(tupleText (PyData.shownAll ps)).length<=_;omega
theorem zv8{z:Str}{q:Nat}(hz:(reprText z).length<=20)(hq:q<10000):Shw (.tup [.str z,.int q]):=by
 obtain⟨a,b⟩:=zjl hq;refine⟨_,[.str z,.int q],rfl,rfl,zm9 (z:=z) ?_ ?_⟩
 · simp only[PyData.showable,PyData.showableAll,z8p,z7p,z5b];exact a
 · simp only[PyData.shownAll,PyData.shown,z5v,z8y,List.sum_cons,List.sum_nil,List.length_cons,List.length_nil];omega
theorem z4a{z:Str}{q w:Nat}(hz:(reprText z).length<=20)(hq:q<10000)(hw:w<10000):Shw (.tup [.str z,.int q,.int w]):=by
 obtain⟨a,b⟩:=zjl hq;obtain⟨a',b'⟩:=zjl hw;refine⟨_,[.str z,.int q,.int w],rfl,rfl,zm9 (z:=z) ?_ ?_⟩
 · simp only[PyData.showable,PyData.showableAll,z8p,z7p,z5k,z5b];exact⟨a,a'⟩
 · simp only[PyData.shownAll,PyData.shown,z5v,z8y,List.sum_cons,List.sum_nil,List.length_cons,List.length_nil];omega
theorem zuu{a b:Nat}{v:D}(mv:Mv a b v)(ha:a<=1100):Shw v:=by
 cases mv with
 |out p hp=>exact zv8 (by decide +kernel) (by omega)
 |swap p hp=>exact zv8 (by decide +kernel) (by omega)
 |turn p q h1 h2=>exact z4a (by decide +kernel) (by omega) (by omega)
 |laid q hq=>exact zv8 (by decide +kernel) (by omega)
 |cut p hp=>exact zv8 (by decide +kernel) (by omega)
 |back q hq=>exact zv8 (by decide +kernel) (by omega)
 |put p hp=>exact zv8 (by decide +kernel) (by omega)
theorem zrj{gg:G}{ds:List D}{S':Sto}(hb:bnd S.length (.tup us)=true)(hS:SB S')(hl:S'.length=S.length)(hg:gg ds S=some (.tup us,S'++J)):frz gg ds S=some (.tup us,S'):=by
 unfold frz;rw[hg];have e1:(S'++J).take S.length=S':=by rw[<-hl];exact z85
 have e2:S'.all (zhy S.length)=true:=z51.mpr (by rw[<-hl];exact hS);simp only[Option.bind_some,e1,e2,z64,hb]
theorem zgl{a:As}(h:a ev S=none):xq a ev S=none:=by simp[xq,eA,h]
theorem zpr{f:E}{a:As}(h:f ev S=none):aC f a ev S=none:=by simp[aC,h]
theorem zpy{f g:E}(h:f ev S=none)(q:g ev S=none):zay f g ev S=none:=(zf1 h).trans q
theorem zlc{b:Nat}(hb:bnd 0 v=true):bnd b (.tup [v])=true:=by show(bnd b v&&true)=true;rw[zdb hb];rfl
theorem zlb{b:Nat}{z:Str}(hb:bnd 0 v=true):bnd b (.tup [.str z,v])=true:=by show(bnd b (.str z)&&(bnd b v&&true))=true;rw[zdb hb];rfl
def zv3:E:=(zay (zw "AsItStood" "step" xm (eV 0) aN) (zay (zw "AsItStands" "step" j8 (eV 0) aN) (zw "Strict" "step" kf (eV 0) aN)))
def z0g:E:=(zay (zw "AsItStood" "more" ko (eV 0) aN) (zay (zw "AsItStands" "more" kg (eV 0) aN) (zw "Strict" "more" ye (eV 0) aN)))
def zxk:F.R:=(rOr (zch "AsItStood" "step" jv (eV 0) aN) (rOr (zch "AsItStands" "step" jq (eV 0) aN) (zch "Strict" "step" xf (eV 0) aN)))
abbrev hE(w:Nat)(b:Bool):Ev:=[some (.obj w),some (.bl b),some .non,none]
theorem zjn(hv:zv3 (hE w true) T=some (v,T1))(hb:bnd 0 v=true)(sb:SB T1)(hl:T1.length=T.length):xu [.obj w,.bl true] T=some (.tup [v],T1) :=
 zrj (J:=[]) (zlc hb) sb hl (by rw[z5y];exact ju rfl (ze (zl e_k) (ze (zmy (zy (qp (e_v rfl)) (zl (jo (a_c hv a_n) (z4z rfl))))) (zq (e_v rfl)))))
theorem zjp(hv:z0g (hE w false) T=some (v,T1))(hb:bnd 0 v=true)(sb:SB T1)(hl:T1.length=T.length):xu [.obj w,.bl false] T=some (.tup [v],T1) :=
 zrj (J:=[]) (zlc hb) sb hl (by rw[z5y];exact ju rfl (ze (zl e_k) (ze (zmy (zeo (qp (e_v rfl)) (zl (jo (a_c hv a_n) (z4z rfl))))) (zq (e_v rfl)))))
theorem z2i{a c:C}:(hAs (zjv ct_Changed) (some 3) a (zjv no_Changed) (hAs (zjv ct_NoMore) none c (zjv no_NoMore) hNo)) (Str.ofString "NoMore")=some (none,c):=by
 have e1:zjv ct_Changed (Str.ofString "NoMore")=false:=by decide +kernel
 have e2:zjv no_Changed (Str.ofString "NoMore")=true:=by decide +kernel
 have e3:zjv ct_NoMore (Str.ofString "NoMore")=true:=by decide +kernel
 simp[hAs,e1,e2,e3]
theorem z2j{f:Str->Option (Option Nat×C)}{a:C}:(hAs (zjv ct_Changed) (some 3) a (zjv no_Changed) f) (Str.ofString "Changed")=some (some 3,a):=by
 have e1:zjv ct_Changed (Str.ofString "Changed")=true:=by decide +kernel
 simp[hAs,e1]
def zzx:D:=.tup [.str (Str.ofString "none"),.non]
def z3x(v:D):D:=.tup [.str (Str.ofString "changed"),v]
theorem zjo(hv:zv3 (hE w true) T=none)(hr:zxk (hE w true) T=some (Str.ofString "NoMore",T1))(sb:SB T1)(hl:T1.length=T.length):xu [.obj w,.bl true] T=some (zzx,T1) :=
 zrj (J:=[]) (zlb rfl) sb hl (by rw[z5y];exact ju rfl (ze (zl e_k) (ze (ztk (zkh (qp (e_v rfl)) (zcr (zgl (zpr hv)))) ((zf5 (qp (e_v rfl))).trans hr) z2i (zl (jo (a_c e_k (a_c e_k a_n)) (z4z rfl)))) (zq (e_v rfl)))))
theorem zy6{s:Bool}(h:T[w]? = some (wkr "Strict" i st m k0))(K:Lk T i j n d dl)(sb:SB T)(hm:m<dl.length)(hv:dl[m]? = some v)(sh:Shw v)(hb:bnd 0 v=true):xu [.obj w,.bl s] T=some (z3x v,T):=by
 have lS:(T++[MO.xd "deed" v]).length=T.length+1:=by simp
 have ex:zoz (Str.ofString "Changed") (T++[MO.xd "deed" v]).length=.xc (Str.ofString "Changed") T.length:=by unfold zoz;rw[z5o (by decide +kernel),lS];rfl
 have l5:(T++[MO.xd "deed" v]++[zoz (Str.ofString "Changed") (T++[MO.xd "deed" v]).length])[(T++[MO.xd "deed" v]).length]? = some (.xc (Str.ofString "Changed") T.length):=by rw[ex];simp
 have l4:(T++[MO.xd "deed" v]++[zoz (Str.ofString "Changed") (T++[MO.xd "deed" v]).length])[T.length]? = some (.xd "deed" v):=by simp
 have o1:"Strict"≠("AsItStood":Str):=by decide +kernel
 have o2:"Strict"≠("AsItStands":Str):=by decide +kernel
 have body:(sIf (bE (eV 1)) (qv 2 (xq (aC zv3 aN))) (qv 2 (xq (aC z0g aN)))) (hE w s) T=none:=by
   cases s with
   |true=>exact zkh (qp (e_v rfl)) (zcr (zgl (zpr (zpy (j6 rfl h o1) (zpy (j6 rfl h o2) (zaj (e_v rfl) (zv h) zal a_n (zwt K h hm)))))))
   |false=>exact ztm (qp (e_v rfl)) (zcr (zgl (zpr (zpy (j6 rfl h o1) (zpy (j6 rfl h o2) (zaj (e_v rfl) (zv h) ze3 a_n (zyo K h hm)))))))
 have rais:(rIf (bE (eV 1)) zxk (zch "Strict" "more" ka (eV 0) aN)) (hE w s) T=some (Str.ofString "Changed",T++[MO.xd "deed" v]):=by
   cases s with
   |true=>exact(zf5 (qp (e_v rfl))).trans ((zlq (zbo rfl h o1)).trans ((zlq (zbo rfl h o2)).trans ((zdu (e_v rfl) (zv h) zal a_n).trans (zws K h hm hv sh))))
   |false=>exact(zse (qp (e_v rfl))).trans ((zdu (e_v rfl) (zv h) ze3 a_n).trans (zyn K h hm hv sh))
 refine zrj (J:=[MO.xd "deed" v]++[zoz (Str.ofString "Changed") (T++[MO.xd "deed" v]).length]) (zlb hb) sb rfl ?_;rw[<-List.append_assoc];exact ju rfl (ze (zl e_k) (ze (ztl body rais z2j (zl (jo (a_c e_k (a_c (zzr (e_v rfl) l5 l4) a_n)) (z4z rfl)))) (zq (e_v rfl))))
theorem zgo{f:E}{a b c d e:D}{q1 q2 q3 q4 q5:Nat}(h:f ev S=some (.tup [a,b,c,d,e],S1)):zmj [q1,q2,q3,q4,q5] f ev S=some (.nx (((((ev.set q1 (some a)).set q2 (some b)).set q3 (some c)).set q4 (some d)).set q5 (some e)),S1):=by simp[zmj,h,zaz]
end Pg
namespace Pg
open PySem L2 F Mt
variable {d d0 l r t x y o st v f:D}{ts us dl ks rt ws sm zs:List D}{h i j g rh w:Nat}{n m0 k0:Int}{S S0 S1 T T1 J:Sto}{ev:Ev}{p m W:Nat}{c:Str}{b s:Bool}
def one(W w:Nat)(sm:List D)(p:Nat)(f:D):D:=.tup [.int W,.obj w,.lst sm,.int p,f]
def zwi(W:Nat)(ts sm:List D):List D:=if W=1 then ts else sm
theorem zzt{ds:List D}:ya [one 2 w sm p (.tup ds),.lst ts,.bl s] S=some (z3x (.tup ds),S) :=
 ju rfl (ze (zgo (e_v rfl)) (qu (zy (zd0 (qp (e_2 (e_v rfl) e_k (zfc _ _))) (qp (e_2 (e_v rfl) e_k rfl))) (zq (jo (a_c e_k (a_c (e_v rfl) a_n)) (z4z rfl))))))
theorem zjs(hf:(W<2)\/(W=2/\f=.non)){k:C}{q:Out×Sto}(hk:k [some (one W w sm p f),some (.lst ts),some (.bl s),some (.int W),some (.obj w),some (.lst (zwi W ts sm)),some (.int p),some f] S=some q) :
   zt (zmj [3,4,5,6,7] (eV 0)) (zt (sIf (zca (bE (e2 ki (eV 3) (eK (.int 2)))) (bE (e2 yc (eV 7) (eK .non)))) (qz (xq (aC (eK (.str (Str.ofString "changed"))) (aC (eV 7) aN)))) jz) (zt (sIf (bE (e2 ki (eV 3) (eK (.int 1)))) (qv 5 (eV 1)) jz) k)) [some (one W w sm p f),some (.lst ts),some (.bl s),none,none,none,none,none] S=some q:=by
 refine ze (zgo (e_v rfl)) ?_;rcases hf with hW | ⟨rfl,rfl⟩
 · match W,hW with
   |0,_=>exact ze (zk (zau (qp (e_2 (e_v rfl) e_k (zfc _ _))))) (ze (zk (qp (e_2 (e_v rfl) e_k (zfc _ _)))) hk)
   |1,_=>exact ze (zk (zau (qp (e_2 (e_v rfl) e_k (zfc _ _))))) (ze (zy (qp (e_2 (e_v rfl) e_k (zfc _ _))) (zl (e_v rfl))) hk)
 · exact ze (zk (zd0 (qp (e_2 (e_v rfl) e_k (zfc _ _))) (qp (e_2 (e_v rfl) e_k rfl)))) (ze (zk (qp (e_2 (e_v rfl) e_k (zfc _ _)))) hk)
theorem zhg(hf:(W<2)\/(W=2/\f=.non)):ya [one W w sm p f,.lst ts,.bl false] S=some (.tup [.bl (decide (p<(zwi W ts sm).length))],S) :=
 ju rfl (zjs hf (qu (zy (z4q (qp (e_v rfl))) (zq (jo (a_c (e_2 (e_v rfl) (e_a (a_c (e_v rfl) a_n) rfl) (z0r _ _)) a_n) (z4z rfl))))))
theorem z0v(a b:Nat):ki (.int (a:Int)) (.int (b:Int))=some (.bl (decide (a=b))):=by rw[zfc];congr 2;rw[z6h];omega
theorem zhf(hf:(W<2)\/(W=2/\f=.non))(hp:p=(zwi W ts sm).length):ya [one W w sm p f,.lst ts,.bl true] S=some (zzx,S) :=
 ju rfl (zjs hf (ze (zk (zwf (qp (e_v rfl)))) (qu (zy (qp (e_2 (e_v rfl) (e_a (a_c (e_v rfl) a_n) rfl) ((z0v _ _).trans (by rw[z49 hp])))) (zq (jo (a_c e_k (a_c e_k a_n)) (z4z rfl)))))))
theorem zhe(hf:(W<2)\/(W=2/\f=.non))(hp:p<(zwi W ts sm).length):ya [one W w sm p f,.lst ts,.bl true] S=some (.tup [(zwi W ts sm)[p]],S) :=
 ju rfl (zjs hf (ze (zk (zwf (qp (e_v rfl)))) (ze (zk (qp (e_2 (e_v rfl) (e_a (a_c (e_v rfl) a_n) rfl) ((z0v _ _).trans (by rw[z47 (by omega)]))))) (zq (jo (a_c (qs (e_v rfl) (e_v rfl) (zbf (z44 hp))) a_n) (z4z rfl))))))
theorem y3{q:Nat}(hd:ya [one W w sm p f,.lst ts,.bl s] T=some (.tup us,T))(hh:xu [.obj w,.bl s] T=some (.tup us,T1))(hp:pl 150 (.tup us)=true)(hq:q=if s=true/\us.length=1 then p+1 else p):qq [one W w sm p f,.lst ts,.bl s] T=some (one W w sm q f,T1):=by
 have ix:∀S:Sto,z8 S (one W w sm p f) (.int 1)=some (.obj w):=fun S=>ix1;have c1:zca (bE (eV 2)) (bE (e2 ki (eA y9 (aC (eV 3) aN)) (eK (.int 1)))) [some (one W w sm p f),some (.lst ts),some (.bl s),some (.tup us),some (.int W),some (.obj w),some (.lst sm),some (.int p),some f] T1=some (decide (s=true/\us.length=1),T1):=by refine(zdt (qp (e_v rfl)) (qp (e_2 (e_a (a_c (e_v rfl) a_n) (d:=.int (us.length:Int)) rfl) e_k (z0v us.length 1)))).trans ?_;cases s<;>simp
 have r1:sIf (zca (bE (eV 2)) (bE (e2 ki (eA y9 (aC (eV 3) aN)) (eK (.int 1))))) (qv 7 (e2 qb (eV 7) (eK (.int 1)))) jz [some (one W w sm p f),some (.lst ts),some (.bl s),some (.tup us),some (.int W),some (.obj w),some (.lst sm),some (.int p),some f] T1=some (.nx [some (one W w sm p f),some (.lst ts),some (.bl s),some (.tup us),some (.int W),some (.obj w),some (.lst sm),some (.int q),some f],T1):=by
   by_cases e:s=true/\us.length=1
   · rw[z5o e]at hq;subst hq;rw[z49 e]at c1;exact zy c1 (zl (e_2 (e_v rfl) e_k (add_int _ _)))
   · rw[z5l e]at hq;subst hq;rw[z47 e]at c1;exact zk c1
 exact ju rfl (ze (zl (zi (a_c (e_v rfl) (a_c (e_v rfl) (a_c (e_v rfl) a_n))) hd)) (ze (zk (qp (e_2 (zi (a_c (qs (e_v rfl) e_k (ix _)) (a_c (e_v rfl) a_n)) hh) (e_v rfl) (z1y hp)))) (ze (zgo (e_v rfl)) (ze r1 (zq (jo (a_c (e_v rfl) (a_c (e_v rfl) (a_c (e_v rfl) (a_c (e_v rfl) (a_c (e_v rfl) a_n))))) (z4z rfl)))))))
theorem zpn{q:Nat}{f':D}(hv:Dd v)(hq:(q:Int)=if W=1 then mvI p v else p)(hf:(f=.non/\f'=v)\/(∃ds,f=.tup ds/\f'=f))(hW:W<3)(S:Sto):ke [one W w sm p f,v] S=some (one W w sm q f',S):=by
 have r1:sIf (bE (e2 ki (eV 2) (eK (.int 1)))) (qv 5 (zn zbb (aC (eV 5) (aC (eV 1) aN)))) jz [some (one W w sm p f),some v,some (.int W),some (.obj w),some (.lst sm),some (.int p),some f] S=some (.nx [some (one W w sm p f),some v,some (.int W),some (.obj w),some (.lst sm),some (.int q),some f],S):=by
   have e:=z0v W 1;by_cases z:W=1
   · rw[z49 z]at e;rw[z5o z]at hq;rw[hq];exact zy (qp (e_2 (e_v rfl) e_k e)) (zl (zi (a_c (e_v rfl) (a_c (e_v rfl) a_n)) (zq9 hv _)))
   · rw[z47 z]at e;rw[z5l z]at hq;rw[hq];exact zk (qp (e_2 (e_v rfl) e_k e))
 have r2:sIf (bE (e2 zev (eV 6) (eK .non))) (qv 6 (eV 1)) jz [some (one W w sm p f),some v,some (.int W),some (.obj w),some (.lst sm),some (.int q),some f] S=some (.nx [some (one W w sm p f),some v,some (.int W),some (.obj w),some (.lst sm),some (.int q),some f'],S):=by
   rcases hf with⟨rfl,rfl⟩ | ⟨ds,rfl,rfl⟩
   · exact zy (qp (e_2 (e_v rfl) e_k rfl)) (zl (e_v rfl))
   · exact zk (qp (e_2 (e_v rfl) e_k rfl))
 exact ju rfl (ze (zgo (e_v rfl)) (ze r1 (ze r2 (zq (jo (a_c (e_v rfl) (a_c (e_v rfl) (a_c (e_v rfl) (a_c (e_v rfl) (a_c (e_v rfl) a_n))))) (z4z rfl))))))
structure Wd where
 way:Nat
 w:Nat
 sm:List D
 mark:Nat
 first:D
 st:D
 m:Nat
 p:Int
def Wd.tup(x:Wd):D:=one x.way x.w x.sm x.mark x.first
def Wd.obj(x:Wd)(i:Nat):MO:=wkr (cls x.way) i x.st x.m x.p
structure WOk (T:Sto) (i:Nat) (dl:List D) (k:Nat) (x:Wd):Prop where
 way:x.way<3
 at_:T[x.w]? = some (x.obj i)
 mok:∃g,Mk 0 x.st x.sm g
 ln:x.sm.length<=2000
 m:x.m<=dl.length
 f:x.first=.non\/(Shw x.first/\bnd 0 x.first=true/\pl 2 x.first=true)
 w0:x.way=0->x.p=x.mark/\x.mark<=x.sm.length
 w1:x.way=1->(dl.drop x.m).foldl mvI x.p=x.mark/\x.mark<=k
 w2:x.way=2->x.p=x.mark/\x.mark<=x.sm.length/\((x.first=.non/\x.m=dl.length)\/(x.first≠.non/\dl[x.m]? = some x.first))
theorem WOk.to{k:Nat}{X:Wd}(a:WOk T i dl k X)(e:T1[X.w]? = T[X.w]?):WOk T1 i dl k X :=
 ⟨a.way,by rw[e];exact a.at_,a.mok,a.ln,a.m,a.f,a.w0,a.w1,a.w2⟩
theorem zen{b:Nat}(hb:i<b)(hd:bnd 0 st=true):zhy b (wkr c i st m0 k0)=true:=by show(bnd b (.obj i)&&(bnd b st&&(bnd b (.int m0)&&(bnd b (.int k0)&&true))))=true;rw[zdb hd];simp[bnd];omega
end Pg
namespace Pg
open PySem L2 F Mt
variable {d d0 l r t x y o st v f:D}{ts us dl ks rt ws sm zs:List D}{h i j g rh w:Nat}{n m0 k0:Int}{S S0 S1 T T1 J:Sto}{ev:Ev}{p m W:Nat}{c:Str}{b s:Bool}{X:Wd}
theorem zuj(h:pl 149 x=true):pl 150 (.tup [x])=true:=by show([x]).all (pl 149)=true;simp[h]
theorem o01:"AsItStood"≠("AsItStands":Str):=by decide +kernel
theorem o02:"AsItStood"≠("Strict":Str):=by decide +kernel
theorem o10:"AsItStands"≠("AsItStood":Str):=by decide +kernel
theorem o12:"AsItStands"≠("Strict":Str):=by decide +kernel
theorem o20:"Strict"≠("AsItStood":Str):=by decide +kernel
theorem o21:"Strict"≠("AsItStands":Str):=by decide +kernel
theorem z0c(K:Lk T i j n d dl)(sb:SB T)(a:WOk T i dl ts.length X)(e:X.way=0)(s:Bool):∃X',qq [X.tup,.lst ts,.bl s] T=some (X'.tup,T.set X.w (X'.obj i))/\X'.w=X.w/\WOk (T.set X.w (X'.obj i)) i dl ts.length X':=by
 obtain⟨way,w,sm,mark,first,st,m,p⟩:=X;obtain⟨hw,at_,⟨g,mk⟩,ln,hm,hf,w0,w1,w2⟩:=a;dsimp only at *;subst e;obtain⟨rfl,hp⟩:=w0 rfl;have li:=(z4y.mp K.s).1;have at_:T[w]? = some (wkr "AsItStood" i st m mark):=at_;have keep:∀{q:Nat},q<=sm.length->WOk (T.set w (wkr "AsItStood" i st m q)) i dl ts.length ⟨0,w,sm,q,first,st,m,q⟩:=fun {q} hq=>
   ⟨hw,kn at_,⟨g,mk⟩,ln,hm,hf,fun _=>⟨rfl,hq⟩,fun z=>(by cases z),fun z=>(by cases z)⟩
 have same:T.set w (wkr "AsItStood" i st m mark)=T:=zeb at_;have nf:(0<2)\/(0=2/\first=.non):=.inl (by decide);cases s with
 | false=>
   refine⟨⟨0,w,sm,mark,first,st,m,mark⟩,?_,rfl,keep hp⟩;show qq [one 0 w sm mark first,.lst ts,.bl false] T=some (one 0 w sm mark first,T.set w (wkr "AsItStood" i st m mark));rw[same];exact y3 (zhg nf) (zjp (zmh (qo (e_v rfl) (zv at_) ze3 a_n (z12 at_ mk))) rfl sb rfl) rfl rfl
 | true=>
   by_cases hk:mark<sm.length
   · refine⟨⟨0,w,sm,mark+1,first,st,m,(mark+1:Nat)⟩,?_,rfl,keep (q:=mark+1) hk⟩;have th:=mk.things _ (z7a hk);exact y3 (zhe nf hk) (zjn (zmh (qo (e_v rfl) (zv at_) zal a_n (z1b at_ mk ln hk))) (zb1 th) (zcb sb (zen li (Mk.bnd0 mk))) z5a) (zuj (zeu (by decide) (zee th))) rfl
   · have e:mark=sm.length:=by omega
     refine⟨⟨0,w,sm,mark,first,st,m,mark⟩,?_,rfl,keep hp⟩;show qq [one 0 w sm mark first,.lst ts,.bl true] T=some (one 0 w sm mark first,T.set w (wkr "AsItStood" i st m mark));rw[same];exact y3 (zhf nf e) (zjo (zpy (zaj (e_v rfl) (zv at_) zal a_n (zwy at_ mk (by omega))) (zpy (j6 rfl at_ o01) (j6 rfl at_ o02))) (zt8 ((zdu (e_v rfl) (zv at_) zal a_n).trans (zwx at_ mk (by omega)))) sb rfl) rfl rfl
theorem z0b(K:Lk T i j n d dl)(sb:SB T)(mh:Mk 0 d ts h)(hl:ts.length<=2000)(hd:∀v∈dl,Dd v)(a:WOk T i dl ts.length X)(e:X.way=1)(s:Bool):∃X',qq [X.tup,.lst ts,.bl s] T=some (X'.tup,T.set X.w (X'.obj i))/\X'.w=X.w/\WOk (T.set X.w (X'.obj i)) i dl ts.length X':=by
 obtain⟨way,w,sm,mark,first,st,m,p⟩:=X;obtain⟨hw,at_,⟨g,mk⟩,ln,hm,hf,w0,w1,w2⟩:=a;dsimp only at *;subst e;obtain⟨hp,hk0⟩:=w1 rfl;have li:=(z4y.mp K.s).1;have at_:T[w]? = some (wkr "AsItStands" i st m p):=at_;have keep:∀{q:Nat},q<=ts.length->WOk (T.set w (wkr "AsItStands" i st dl.length q)) i dl ts.length ⟨1,w,sm,q,first,st,dl.length,q⟩:=fun {q} hq=>
   ⟨hw,kn at_,⟨g,mk⟩,ln,z45 _,hf,fun z=>(by cases z),fun _=>⟨by simp,hq⟩,fun z=>(by cases z)⟩
 have nf:(1<2)\/(1=2/\first=.non):=.inl (by decide);have sb1:∀q:Int,SB (T.set w (wkr "AsItStands" i st dl.length q)):=fun q=>zcb sb (zen li (Mk.bnd0 mk));cases s with
 | false=>
   exact⟨⟨1,w,sm,mark,first,st,dl.length,mark⟩,y3 (zhg nf) (zjp ((zf1 (j6 rfl at_ o10)).trans (zmh (qo (e_v rfl) (zv at_) ze3 a_n (z11 K at_ hm hd hp mh)))) rfl (sb1 _) z5a) rfl rfl,rfl,keep hk0⟩
 | true=>
   by_cases hk:mark<ts.length
   · have th:=mh.things _ (z7a hk);have du:ya [one 1 w sm mark first,.lst ts,.bl true] T=some (.tup [ts[mark]],T):=zhe (W:=1) (ts:=ts) (sm:=sm) nf hk;refine⟨⟨1,w,sm,mark+1,first,st,dl.length,(mark+1:Nat)⟩,?_,rfl,keep (q:=mark+1) hk⟩;show qq [one 1 w sm mark first,.lst ts,.bl true] T=some (one 1 w sm (mark+1) first,T.set w (wkr "AsItStands" i st dl.length (mark+1:Nat)));exact y3 du (zjn ((zf1 (j6 rfl at_ o10)).trans (zmh (qo (e_v rfl) (zv at_) zal a_n (z1a K at_ hm hd hp mh hl hk)))) (zb1 th) (sb1 _) z5a) (zuj (zeu (by decide) (zee th))) rfl
   · have e:mark=ts.length:=by omega
     exact⟨⟨1,w,sm,mark,first,st,dl.length,mark⟩,y3 (zhf nf e) (zjo (zpy (j6 rfl at_ o10) (zpy (zaj (e_v rfl) (zv at_) zal a_n (zww K at_ hm hd hp mh (by omega))) (j6 rfl at_ o12))) ((zlq (zbo rfl at_ o10)).trans (zt8 ((zdu (e_v rfl) (zv at_) zal a_n).trans (zwv K at_ hm hd hp mh (by omega))))) (sb1 _) z5a) rfl rfl,rfl,keep hk0⟩
theorem z0a(K:Lk T i j n d dl)(sb:SB T)(a:WOk T i dl ts.length X)(e:X.way=2)(s:Bool):∃X',qq [X.tup,.lst ts,.bl s] T=some (X'.tup,T.set X.w (X'.obj i))/\X'.w=X.w/\WOk (T.set X.w (X'.obj i)) i dl ts.length X':=by
 obtain⟨way,w,sm,mark,first,st,m,p⟩:=X;obtain⟨hw,at_,⟨g,mk⟩,ln,hm,hf,w0,w1,w2⟩:=a;dsimp only at *;subst e;obtain⟨rfl,hp,hx⟩:=w2 rfl;have li:=(z4y.mp K.s).1;have at_:T[w]? = some (wkr "Strict" i st m mark):=at_;have keep:∀{q:Nat},q<=sm.length->WOk (T.set w (wkr "Strict" i st m q)) i dl ts.length ⟨2,w,sm,q,first,st,m,q⟩:=fun {q} hq=>
   ⟨hw,kn at_,⟨g,mk⟩,ln,hm,hf,fun z=>(by cases z),fun z=>(by cases z),fun _=>⟨rfl,hq,hx⟩⟩
 have same:T.set w (wkr "Strict" i st m mark)=T:=zeb at_;rcases hx with⟨rfl,hd⟩ | ⟨hn,hv⟩
 · have nf:(2<2)\/(2=2/\D.non=.non):=.inr ⟨rfl,rfl⟩;cases s with
   | false=>
     refine⟨⟨2,w,sm,mark,.non,st,m,mark⟩,?_,rfl,keep hp⟩;show qq [one 2 w sm mark .non,.lst ts,.bl false] T=some (one 2 w sm mark .non,T.set w (wkr "Strict" i st m mark));rw[same];exact y3 (zhg nf) (zjp ((zf1 (j6 rfl at_ o20)).trans ((zf1 (j6 rfl at_ o21)).trans (qo (e_v rfl) (zv at_) ze3 a_n (z10 K at_ hd mk)))) rfl sb rfl) rfl rfl
   | true=>
     by_cases hk:mark<sm.length
     · have th:=mk.things _ (z7a hk);exact⟨⟨2,w,sm,mark+1,.non,st,m,(mark+1:Nat)⟩,y3 (zhe nf hk) (zjn ((zf1 (j6 rfl at_ o20)).trans ((zf1 (j6 rfl at_ o21)).trans (qo (e_v rfl) (zv at_) zal a_n (step2 K at_ hd mk ln hk)))) (zb1 th) (zcb sb (zen li (Mk.bnd0 mk))) z5a) (zuj (zeu (by decide) (zee th))) rfl,rfl,keep (q:=mark+1) hk⟩
     · have e:mark=sm.length:=by omega
       refine⟨⟨2,w,sm,mark,.non,st,m,mark⟩,?_,rfl,keep hp⟩;show qq [one 2 w sm mark .non,.lst ts,.bl true] T=some (one 2 w sm mark .non,T.set w (wkr "Strict" i st m mark));rw[same];exact y3 (zhf nf e) (zjo (zpy (j6 rfl at_ o20) (zpy (j6 rfl at_ o21) (zaj (e_v rfl) (zv at_) zal a_n (zwu K at_ hd mk (by omega))))) ((zlq (zbo rfl at_ o20)).trans ((zlq (zbo rfl at_ o21)).trans ((zdu (e_v rfl) (zv at_) zal a_n).trans (ztj K at_ hd mk (by omega))))) sb rfl) rfl rfl
 · obtain⟨sh,hb,hpl⟩:=hf.resolve_left hn;obtain⟨ds,ps,rfl,_,_⟩:=id sh;have hm2:m<dl.length:=(z4y.mp hv).1;refine⟨⟨2,w,sm,mark,.tup ds,st,m,mark⟩,?_,rfl,keep hp⟩;show qq [one 2 w sm mark (.tup ds),.lst ts,.bl s] T=some (one 2 w sm mark (.tup ds),T.set w (wkr "Strict" i st m mark));rw[same];refine y3 zzt (zy6 at_ K sb hm2 hv sh hb) ?_ ?_
   · show([D.str (Str.ofString "changed"),.tup ds]).all (pl 149)=true;simp only[List.all_cons,List.all_nil,z8p,zeu (show 2<=149 by decide) hpl];rfl
   · rw[z5l (fun z=>by cases z.2)]
theorem zz9(K:Lk T i j n d dl)(sb:SB T)(mh:Mk 0 d ts h)(hl:ts.length<=2000)(hd:∀v∈dl,Dd v)(a:WOk T i dl ts.length X)(s:Bool):∃X',qq [X.tup,.lst ts,.bl s] T=some (X'.tup,T.set X.w (X'.obj i))/\X'.w=X.w/\WOk (T.set X.w (X'.obj i)) i dl ts.length X':=by
 have:=a.way;by_cases e0:X.way=0
 · exact z0c K sb a e0 s
 by_cases e1:X.way=1
 · exact z0b K sb mh hl hd a e1 s
 · exact z0a K sb a (by omega) s
theorem zv0{k k':Nat}(a:WOk T i dl k X)(mv:Mv k k' v)(hk:k<=1100)(e:T1[X.w]? = T[X.w]?):∃X',(∀S,ke [X.tup,v] S=some (X'.tup,S))/\X'.w=X.w/\WOk T1 i (dl++[v]) k' X':=by
 obtain⟨way,w,sm,mark,first,st,m,p⟩:=X;obtain⟨hw,at_,⟨g,mk⟩,ln,hm,hf,w0,w1,w2⟩:=a;dsimp only at *;have sv:=zuu mv hk;obtain⟨vs,_,ev,_,_⟩:=id sv;have nv:v≠.non:=by rw[ev];intro z;cases z
 have pv:=mv.pl2;have bv:=mv.bnd0;obtain⟨f',hf',ok',nn⟩:∃f',((first=.non/\f'=v)\/(∃ds,first=.tup ds/\f'=first))/\(Shw f'/\bnd 0 f'=true/\pl 2 f'=true)/\f'≠.non:=by
   rcases hf with rfl | ⟨a1,a2,a3⟩
   · exact⟨v,.inl ⟨rfl,rfl⟩,⟨sv,bv,pv⟩,nv⟩
   · obtain⟨ds,_,rfl,_,_⟩:=id a1;exact⟨_,.inr ⟨ds,rfl,rfl⟩,⟨a1,a2,a3⟩,fun z=>(by cases z)⟩
 obtain⟨q,hq⟩:∃q:Nat,(q:Int)=if way=1 then mvI mark v else mark:=by
   by_cases z:way=1
   · rw[z5o z];obtain⟨_,hk2⟩:=w1 z;have:=(zyk mv (p:=(mark:Int)) (by omega) (by omega)).1;exact⟨(mvI mark v).toNat,by omega⟩
   · rw[z5l z];exact⟨mark,rfl⟩
 refine⟨⟨way,w,sm,q,f',st,m,p⟩,fun S=>zpn mv.dd hq hf' hw S,rfl,hw,by rw[e];exact at_,⟨g,mk⟩,ln,by simp;omega,.inr ok',fun z=>?_,fun z=>?_,fun z=>?_⟩
 · dsimp only at z ⊢;rw[z5l (by omega)]at hq;have:=w0 z;have e2:q=mark:=by omega
   rw[e2];exact this
 · dsimp only at z ⊢;rw[z5o z]at hq;obtain⟨a1,a2⟩:=w1 z;have a3:=(zyk mv (p:=(mark:Int)) (by omega) (by omega)).2;refine⟨?_,by omega⟩;rw[z73 hm,List.foldl_append,a1,hq];rfl
 · dsimp only at z ⊢;rw[z5l (by omega)]at hq;obtain⟨a1,a2,a3⟩:=w2 z;have e2:q=mark:=by omega
   rw[e2];refine⟨a1,a2,.inr ⟨nn,?_⟩⟩;rcases a3 with⟨rfl,hd⟩ | ⟨b1,b2⟩
   · rcases hf' with⟨_,rfl⟩ | ⟨ds,z,_⟩
     · rw[hd];simp
     · cases z
   · rcases hf' with⟨z,_⟩ | ⟨ds,_,rfl⟩
     · exact absurd z b1
     · rw[z5h (z4y.mp b2).1];exact b2
end Pg
namespace Pg
open PySem L2 F Mt
variable {d d0 l r t x y o st v f:D}{ts us dl ks rt ws sm zs:List D}{h i j g rh w:Nat}{n m0 k0:Int}{S S0 S1 T T1 J:Sto}{ev:Ev}{p m W kp wl:Nat}{c:Str}{b s:Bool}{X:Wd}{xs:List Wd}
structure In (T:Sto) (i j kp wl:Nat) (n:Int) (d:D) (dl ts ks:List D) (xs:List Wd) (h:Nat):Prop where
 K:Lk T i j n d dl
 sb:SB T
 mkd:Mk 0 d ts h
 ln:ts.length<=202
 q:Dl dl
 dd:∀v∈dl,Dd v
 kp_:T[kp]? = some (.lst ks)
 wl_:T[wl]? = some (.lst (xs.map Wd.tup))
 kj:kp≠j
 wj:wl≠j
 kw:kp≠wl
 kk:∀x∈ks,Kp 202 x
 k0:0<ks.length
 ok:∀X∈xs,WOk T i dl ts.length X
 nd:(xs.map Wd.w).Nodup
 x5:xs.length<=5
theorem zjm{a b:Nat}{us:List D}{c:Str}{fs:List (Str×D)}(ha:T[a]? = some (.lst us))(hb:T[b]? = some (.ins c fs)):a≠b:=fun e=>by rw[e,hb]at ha;cases ha
theorem zpq{q:Nat}{v:MO}(hq:T[q]? = some v)(J:Sto):(T++J)[q]? = T[q]?:=by rw[z5h (z4y.mp hq).1]
theorem zj5{q:Nat}{v:MO}(hq:T[q]? = some v)(J:Sto):(T++J)[q]? = some v:=by rw[zpq hq];exact hq
theorem ztb{k b:Nat}(a:WOk T i dl k X)(hb:T.length<=b):bnd b X.tup=true:=by
 have lw:=(z4y.mp a.at_).1;obtain⟨g,mk⟩:=a.mok;have e1:bnd b (.lst X.sm)=true:=zao mk.things;have e2:bnd b X.first=true:=by
   rcases a.f with e | ⟨_,e,_⟩
   · rw[e];rfl
   · exact zdb e
 have e3:bnd b (.obj X.w)=true:=z49 (z48 lw hb);show(bnd b (.int X.way)&&(bnd b (.obj X.w)&&(bnd b (.lst X.sm)&&(bnd b (.int X.mark)&&(bnd b X.first&&true)))))=true;rw[e1,e2,e3];rfl
theorem zgk{k b:Nat}(a:∀X∈xs,WOk T i dl k X)(hb:T.length<=b):zhy b (.lst (xs.map Wd.tup))=true :=
 zfo fun z hz=>by obtain⟨X,hX,rfl⟩:=z80.mp hz;exact ztb (a X hX) hb
theorem zy2{A:As}{a:Nat}{st:D}{m0 k0:Int}(hW:W<3)(h:S[a]? = some (wkr (cls W) i st m0 k0))(hA:A ev S=some ([.obj a,.fn "Walker"],S)):zay (eA (zja "AsItStands" "Walker" true) A) (zay (eA (zja "AsItStood" "Walker" true) A) (eA (zja "Strict" "Walker" true) A)) ev S=some (.bl true,S):=by
 have yes:∀c:Str,S[a]? = some (wkr c i st m0 k0)->eA (zja c "Walker" true) A ev S=some (.bl true,S):=fun c hc=>e_a hA (by simp[zja,hc,wkr]);have no:∀c c':Str,S[a]? = some (wkr c i st m0 k0)->c≠c'->eA (zja c' "Walker" true) A ev S=none:=fun c c' hc e=>by simp[eA,hA,zja,hc,wkr,e]
 match W,hW with
 |0,_=>exact(zf1 (no _ _ h o01)).trans (zmh (yes _ h))
 |1,_=>exact zmh (yes _ h)
 |2,_=>exact(zf1 (no _ _ h o21)).trans ((zf1 (no _ _ h o20)).trans (yes _ h))
theorem zv1(us:List D)(x:D):atI (us++[x]) (-1)=some x:=by
 unfold atI ixN;rw[z5l (by decide),z5o (by simp;omega)];have e:((-1:Int)+((us++[x]).length:Nat)).toNat=us.length:=by simp;omega
 rw[e];simp
def aW:As:=(aC (e2s z8 (e2s z8 (eV 5) (e1 zyf (eK (.int 1)))) (eK (.int 1))) (aC (eK (.fn "Walker")) aN))
def b1:C:=(zt (kr (eV 5) (xq (aC (e2 jr (eV 7) (eK (.int 3))) (aC (zn xx (aC (eV 3) (aC (e2 jr (eV 7) (eK (.int 3))) aN))) (aC (yi (aC (eV 1) aN)) (aC (eK (.int 0)) (aC (eK .non) aN))))))) (sIf (zmg (bE (zay (eA (zja "AsItStands" "Walker" true) aW) (zay (eA (zja "AsItStood" "Walker" true) aW) (eA (zja "Strict" "Walker" true) aW))))) (qz (eK (.bl false))) jz))
abbrev eL(a0:D)(ts:List D)(i kp wl:Nat)(a6:D)(z wy:Int)(o9 o10 o11:Option D):Ev:=[some a0,some (.lst ts),some (.obj 0),some (.obj i),some (.obj kp),some (.obj wl),some a6,some (.int z),some (.int wy),o9,o10,o11]
variable {a0 a6:D}{z wy:Int}{o9 o10 o11:Option D}
theorem zlx{l:List Nat}{x:Nat}(h:l.Nodup)(hx:x∉l):(l++[x]).Nodup:=by rw[List.nodup_append];refine⟨h,by simp,?_⟩;intro a ha b hb e;rw[z5i.mp hb]at e;exact hx (e▸ha)
theorem z28(I:In T i j kp wl n d dl ts ks xs h)(hx:xs.length<5):∃T' xs',b1 (eL a0 ts i kp wl a6 z wy o9 o10 o11) T=some (.nx (eL a0 ts i kp wl a6 z wy o9 o10 o11),T')/\In T' i j kp wl n d dl ts ks xs' h:=by
 obtain⟨W,hW,cW⟩:=zex z (c:=3) (by decide);have lwl:=(z4y.mp I.wl_).1;have li:=(z4y.mp I.K.s).1;have n0:wl≠0:=zjm I.wl_ I.K.w;have ni:wl≠i:=zjm I.wl_ I.K.s;have K1:=I.K.app [wkr (cls W) i d dl.length 0];have ap:=fun {q:Nat}{v:MO} (hq:T[q]? = some v)=>zj5 hq [wkr (cls W) i d dl.length 0];have w1:=ap I.wl_;have new:(T++[wkr (cls W) i d dl.length 0])[T.length]? = some (wkr (cls W) i d dl.length 0):=by simp
 let X:Wd:=⟨W,T.length,ts,0,.non,d,dl.length,0⟩
 have et:(xs++[X]).map Wd.tup=xs.map Wd.tup++[X.tup]:=by simp
 have oX:WOk (T++[wkr (cls W) i d dl.length 0]) i dl ts.length X:=⟨hW,new,⟨h,I.mkd⟩,by have:=I.ln;show ts.length<=2000;omega,z45 _,.inl rfl,fun _=>⟨rfl,z5t _⟩,fun _=>⟨by simp[X],z5t _⟩,fun _=>⟨rfl,z5t _,.inl ⟨rfl,rfl⟩⟩⟩
 have ok1:∀Y∈xs++[X],WOk (T++[wkr (cls W) i d dl.length 0]) i dl ts.length Y:=fun Y hY=>by
   rcases z6m.mp hY with hY | hY
   · exact(I.ok Y hY).to (zpq (I.ok Y hY).at_ _)
   · rw[z5i.mp hY];exact oX
 have sb1:SB (T++[wkr (cls W) i d dl.length 0]):=znf I.sb fun m hm=>by rw[z5i.mp hm];exact zen (by simp;omega) (Mk.bnd0 I.mkd)
 have s1:kr (eV 5) (xq (aC (e2 jr (eV 7) (eK (.int 3))) (aC (zn xx (aC (eV 3) (aC (e2 jr (eV 7) (eK (.int 3))) aN))) (aC (yi (aC (eV 1) aN)) (aC (eK (.int 0)) (aC (eK .non) aN)))))) (eL a0 ts i kp wl a6 z wy o9 o10 o11) T=some (.nx (eL a0 ts i kp wl a6 z wy o9 o10 o11),(T++[wkr (cls W) i d dl.length 0]).set wl (.lst (xs.map Wd.tup++[X.tup]))) :=
   zlm (v:=(xq (aC (e2 jr (eV 7) (eK (.int 3))) (aC (zn xx (aC (eV 3) (aC (e2 jr (eV 7) (eK (.int 3))) aN))) (aC (yi (aC (eV 1) aN)) (aC (eK (.int 0)) (aC (eK .non) aN))))))) (x:=X.tup) rfl I.wl_ (jo (a_c (e_2 (e_v rfl) e_k cW) (a_c (zi (a_c (e_v rfl) (a_c (e_2 (e_v rfl) e_k cW) a_n)) (zr1 I.K hW)) (a_c (zdi (e_v rfl)) (a_c e_k (a_c e_k a_n))))) (z4z rfl)) w1 (by rw[z6b];omega)
 have a2:((T++[wkr (cls W) i d dl.length 0]).set wl (.lst (xs.map Wd.tup++[X.tup])))[wl]? = some (.lst (xs.map Wd.tup++[X.tup])):=kn w1;have a3:((T++[wkr (cls W) i d dl.length 0]).set wl (.lst (xs.map Wd.tup++[X.tup])))[T.length]? = some (wkr (cls W) i d dl.length 0):=by rw[z43 (by omega)];exact new
 refine⟨(T++[wkr (cls W) i d dl.length 0]).set wl (.lst ((xs++[X]).map Wd.tup)),xs++[X],?_,?_⟩
 · rw[et];have hA:aW (eL a0 ts i kp wl a6 z wy o9 o10 o11) ((T++[wkr (cls W) i d dl.length 0]).set wl (.lst (xs.map Wd.tup++[X.tup])))=some ([.obj T.length,.fn "Walker"],(T++[wkr (cls W) i d dl.length 0]).set wl (.lst (xs.map Wd.tup++[X.tup]))) :=
     a_c (qs (qs (e_v rfl) (e_1 e_k rfl) (show z8 _ (.obj wl) (.int (-1))=some X.tup by simp only[z8,a2];exact zv1 _ _)) e_k (show z8 _ X.tup (.int 1)=some (.obj T.length)from ix1)) (a_c e_k a_n)
   exact ze s1 (zk (zwf (qp (zy2 hW a3 hA))))
 · refine⟨K1.st _ n0 ni I.wj,zcb sb1 (zgk ok1 (z45 _)),I.mkd,I.ln,I.q,I.dd,?_,kn w1,I.kj,I.wj,I.kw,I.kk,I.k0,fun Y hY=>(ok1 Y hY).to ?_,?_,by simp;omega⟩
   · rw[z43 (z5x I.kw)];exact ap I.kp_
   · rw[z43 (zjm w1 (ok1 Y hY).at_)]
   · rw[List.map_append];refine zlx I.nd fun hm=>?_;obtain⟨Y,hY,e⟩:=z80.mp hm;have:=(z4y.mp (I.ok Y hY).at_).1;have e:Y.w=T.length:=e;omega
def b2:C:=(zt (qv 9 (e2 jr (e2 zbk (eV 7) (eK (.int 3))) (e2 qb (eA y9 (aC (eV 1) aN)) (eK (.int 1))))) (zt (qv 3 (zw "Shelf" "cut" yu (eV 3) (aC (eV 9) aN))) (zt (qv 1 (eSl (eV 1) (pE (eV 9)) pN)) (zt (qv 4 (zc7 (aC (xq (aC (zw "Shelf" "make" qg (eV 3) aN) (aC (yi (aC (eV 1) aN)) aN))) aN))) (qv 5 (zc7 aN))))))
theorem z27(I:In T i j kp wl n d dl ts ks xs h)(hd:dl.length<1000):∃T' i' j' kp' wl' n' d' ts' ks' h' o9',b2 (eL a0 ts i kp wl a6 z wy o9 o10 o11) T=some (.nx (eL a0 ts' i' kp' wl' a6 z wy o9' o10 o11),T')/\In T' i' j' kp' wl' n' d' [] ts' ks' [] h'/\ks'.length=1:=by
 obtain⟨p,hp,cp⟩:=zey (z/3) ts.length;have ln:=I.ln;obtain⟨x,y,xh,yh,n',co,m',my⟩:=zsc I.K (p:=p) I.mkd (by omega) hp (by omega);have KU:=I.K.up n' x (dl++[zju p]);have sbU:SB (Up T i j n' x (dl++[zju p])):=zt5 I.sb I.K m' (I.q.app (Mv.cut p hp));have lU:(Up T i j n' x (dl++[zju p])).length=T.length:=up_len;have lT:0<T.length:=(z4y.mp I.K.w).1;generalize Up T i j n' x (dl++[zju p])=U at KU sbU lU co;have c1:(U++[shf y (T.length+1),.lst []])[T.length]? = some (shf y (T.length+1)):=by rw[<-lU];simp
 have e2':(U++[shf y (T.length+1),.lst []]).length=T.length+2:=by simp[lU]
 have kpn:Kp 202 (.tup [y,.lst (ts.drop p)]):=⟨y,ts.drop p,yh,rfl,my,by rw[z5r];omega⟩
 have d4:U++[shf y (T.length+1),.lst []]++[MO.lst [D.tup [y,.lst (ts.drop p)]]]++[MO.lst []]=U++[shf y (T.length+1),.lst [],.lst [.tup [y,.lst (ts.drop p)]],.lst []]:=by simp
 have atq:∀q:Nat,(U++[shf y (T.length+1),.lst [],.lst [.tup [y,.lst (ts.drop p)]],.lst []])[T.length+q]? = ([shf y (T.length+1),.lst [],.lst [.tup [y,.lst (ts.drop p)]],.lst []]:Sto)[q]?:=fun q=>by rw[z5j (by omega),lU,z7n]
 refine⟨U++[shf y (T.length+1),.lst []]++[MO.lst [D.tup [y,.lst (ts.drop p)]]]++[MO.lst []],T.length,T.length+1,(U++[shf y (T.length+1),.lst []]).length,(U++[shf y (T.length+1),.lst []]++[MO.lst [D.tup [y,.lst (ts.drop p)]]]).length,n',y,ts.drop p,[.tup [y,.lst (ts.drop p)]],yh,some (.int p),?_,?_,rfl⟩
 · exact ze (zl (e_2 (e_2 (e_v rfl) e_k (zhh (by decide))) (e_2 (e_a (a_c (e_v rfl) a_n) rfl) e_k (add_int _ _)) cp)) (ze (zl (qo (e_v rfl) (qx I.K.s) zsa (a_c (e_v rfl) a_n) co)) (ze (zl (zmk (e_v rfl) (p_e (e_v rfl)) p_n (zdf hp))) (ze (zl (zgg (a_c (jo (a_c (zia rfl c1) (a_c (zdi (e_v rfl)) a_n)) (z4z rfl)) a_n) (z4z rfl))) (zl (zgg a_n (z5t _))))))
 · rw[d4,show(U++[shf y (T.length+1),.lst []]++[MO.lst [D.tup [y,.lst (ts.drop p)]]]).length=T.length+3 by simp[lU],e2'];refine⟨⟨zj5 KU.w _,atq 0,atq 1,by omega,by omega,by omega⟩,?_,my,by rw[z5r];omega,fun _ hv=>(by cases hv),fun _ hv=>(by cases hv),atq 2,atq 3,by omega,by omega,by omega,fun x hx=>by rw[z5i.mp hx];exact kpn,Nat.one_pos,fun _ hv=>(by cases hv),z84,by decide⟩;refine znf sbU fun m hm=>?_;simp only[z5z,z8r,or_false]at hm;rcases hm with rfl | rfl | rfl | rfl
   · exact zjg (by simp[lU]) (Mk.bnd0 my)
   · rfl
   · exact zfo fun x hx=>by rw[z5i.mp hx];exact zdb kpn.bnd0
   · rfl
def gB:E:=(zn ke (aC (eV 0) (aC (eV 1) aN)))
theorem zs2{k k':Nat}{us:List D}(mv:Mv k k' v)(hk:k<=1100)(hw:S[wl]? = some (.lst us)):∀(xs:List Wd),(∀X∈xs,WOk T i dl k X/\T1[X.w]? = T[X.w]?)->∃xs':List Wd,zat wl us zmf gB [some v] (xs.map Wd.tup) S=some (xs'.map Wd.tup,S)/\xs'.map Wd.w=xs.map Wd.w/\(∀X∈xs',WOk T1 i (dl++[v]) k' X)
 | [],_=>⟨[],zgh hw,rfl,fun _ hx=>by cases hx⟩
 | X::xs,hX=>by obtain⟨a,e⟩:=hX X (z5w ..);obtain⟨X',c1,e1,ok1⟩:=zv0 a mv hk e;obtain⟨xs',c2,e2',ok2⟩:=zs2 mv hk hw xs fun Y hY=>hX Y (z5d _ hY);refine⟨X'::xs',?_,by rw[z5v,z5v,e1,e2'],fun Y hY=>(z5z.mp hY).elim (fun q=>by rw[q];exact ok1) (ok2 Y)⟩;have cb:gB (some X.tup::[some v]) S=some (X'.tup,S):=zi (a_c (e_v rfl) (a_c (e_v rfl) a_n)) (c1 S);rw[z5v,zfi hw];simp only[zmf,Option.bind_some,z64,cb,c2,z5v]
def b3:C:=(zt (zmj [1,10] (zn xw (aC (eV 2) (aC (eV 3) (aC (eV 1) (aC (eV 4) (aC (eV 7) (aC (e2 qb (eK (.int 5000)) (e2 za4 (eK (.int 10)) (eV 6))) aN)))))))) (zt (kr (eV 4) (xq (aC (zw "Shelf" "make" qg (eV 3) aN) (aC (yi (aC (eV 1) aN)) aN)))) (qv 5 (zfe [10] (zv7 (eV 5)) zmf gB))))
theorem zyl(q:Int):za4 (.int 10) (.int q)=some (.int (10*q)):=zn5 (by decide)
theorem z26{k:Int}(I:In T i j kp wl n d dl ts ks xs h)(hd:dl.length<1000)(hk:ks.length<1000)(z0:0<=z)(ht:ts.length<200):∃T' wl' n' d' dl' ts' ks' xs' h' o10',b3 (eL a0 ts i kp wl (.int k) z wy o9 o10 o11) T=some (.nx (eL a0 ts' i kp wl' (.int k) z wy o9 o10' o11),T')/\In T' i j kp wl' n' d' dl' ts' ks' xs' h'/\dl'.length=dl.length+1/\ks'.length=ks.length+1:=by
 obtain⟨n',ts',d',h',v,co,m',mv,lt⟩:=zvr (f:=5000+10*k) I.K I.sb I.kp_ z0 I.mkd (by omega) hd I.q I.kk I.k0 (by decide);have lt':ts'.length<=202:=by omega
 have KU:=I.K.up n' d' (dl++[v]);have sbU:SB (Up T i j n' d' (dl++[v])):=zt5 I.sb I.K m' (I.q.app mv);have lU:(Up T i j n' d' (dl++[v])).length=T.length:=up_len;have une:∀{q:Nat},q≠0->q≠i->q≠j->(Up T i j n' d' (dl++[v]))[q]? = T[q]?:=fun a b c=>z02 a b c;have kpU:(Up T i j n' d' (dl++[v]))[kp]? = some (.lst ks):=by rw[une (zjm I.kp_ I.K.w) (zjm I.kp_ I.K.s) I.kj];exact I.kp_
 have wlU:(Up T i j n' d' (dl++[v]))[wl]? = some (.lst (xs.map Wd.tup)):=by rw[une (zjm I.wl_ I.K.w) (zjm I.wl_ I.K.s) I.wj];exact I.wl_
 have xU:∀X∈xs,(Up T i j n' d' (dl++[v]))[X.w]? = T[X.w]?:=fun X hX=>by
   have a:=(I.ok X hX).at_;have hw:=(I.ok X hX).way;have c1:cls X.way≠"Shelf"/\cls X.way≠"Wood":=by
     generalize X.way=q at hw
     match q,hw with
     |0,_=>exact⟨by decide +kernel,by decide +kernel⟩
     |1,_=>exact⟨by decide +kernel,by decide +kernel⟩
     |2,_=>exact⟨by decide +kernel,by decide +kernel⟩
   obtain⟨p1,p2,p3⟩:=zmo I.K a c1.1 c1.2;exact une p1 p2 p3
 generalize Up T i j n' d' (dl++[v])=U at KU sbU lU co kpU wlU xU;have kpn:Kp 202 (.tup [d',.lst ts']):=⟨d',ts',h',rfl,m',lt'⟩
 have kk1:∀x∈ks++[.tup [d',.lst ts']],Kp 202 x:=fun x hx=>(z6m.mp hx).elim (I.kk x) fun e=>by rw[z5i.mp e];exact kpn
 have kne0:kp≠0:=zjm kpU KU.w;have knei:kp≠i:=zjm kpU KU.s;have K2:=KU.st (.lst (ks++[.tup [d',.lst ts']])) kne0 knei I.kj;have sb2:SB (U.set kp (.lst (ks++[.tup [d',.lst ts']]))):=zcb sbU (zfo fun x hx=>zdb (kk1 x hx).bnd0);have wl2:(U.set kp (.lst (ks++[.tup [d',.lst ts']])))[wl]? = some (.lst (xs.map Wd.tup)):=by rw[z43 I.kw];exact wlU
 have x2:∀X∈xs,WOk T i dl ts.length X/\(U.set kp (.lst (ks++[.tup [d',.lst ts']])))[X.w]? = T[X.w]?:=fun X hX=>⟨I.ok X hX,by
   have a:=(I.ok X hX).at_;rw[z43 (zjm I.kp_ a)];exact xU X hX⟩
 have k2:(U.set kp (.lst (ks++[.tup [d',.lst ts']])))[kp]? = some (.lst (ks++[.tup [d',.lst ts']])):=kn kpU;have s2:kr (eV 4) (xq (aC (zw "Shelf" "make" qg (eV 3) aN) (aC (yi (aC (eV 1) aN)) aN))) (eL a0 ts' i kp wl (.int k) z wy o9 (some v) o11) U=some (.nx (eL a0 ts' i kp wl (.int k) z wy o9 (some v) o11),U.set kp (.lst (ks++[.tup [d',.lst ts']]))) :=
   zh3 rfl kpU (jo (a_c (zia rfl KU.s) (a_c (zdi (e_v rfl)) a_n)) (z4z rfl)) (by omega)
 generalize U.set kp (.lst (ks++[.tup [d',.lst ts']]))=V at K2 sb2 wl2 x2 k2 s2;obtain⟨xs',cc,ew,ok⟩:=zs2 (T1:=V) (S:=V) mv (by omega) wl2 xs x2;have s3:zfe [10] (zv7 (eV 5)) zmf gB (eL a0 ts' i kp wl (.int k) z wy o9 (some v) o11) V=some (.obj V.length,V++[.lst (xs'.map Wd.tup)]):=by
   have e5:zv7 (eV 5) (eL a0 ts' i kp wl (.int k) z wy o9 (some v) o11) V=some ((xs.map Wd.tup,some wl),V):=by simp only[zv7,e_v (show(eL a0 ts' i kp wl (.int k) z wy o9 (some v) o11)[5]? = some (some (.obj wl))from rfl),Option.bind_some,wl2]
   simp only[zfe,e5,Option.bind_some,zc9];show Option.map _ (zat wl (xs.map Wd.tup) zmf gB [some v] (xs.map Wd.tup) V)=_;rw[cc];rfl
 refine⟨V++[.lst (xs'.map Wd.tup)],V.length,n',d',dl++[v],ts',ks++[.tup [d',.lst ts']],xs',h',some v,?_,?_,by simp,by simp⟩
 · exact ze (zmx (zi (a_c (e_v rfl) (a_c (e_v rfl) (a_c (e_v rfl) (a_c (e_v rfl) (a_c (e_v rfl) (a_c (e_2 e_k (e_2 e_k (e_v rfl) (zyl _)) (add_int _ _)) a_n)))))) co)) (ze s2 (zl s3))
 · have lk:=(z4y.mp k2).1;have lj:=(z4y.mp K2.l).1;refine⟨K2.app _,znf sb2 ?_,m',lt',I.q.app mv,fun x hx=>(z6m.mp hx).elim (I.dd x) fun e=>by rw[z5i.mp e];exact mv.dd,zj5 k2 _,by simp,I.kj,by omega,by omega,kk1,by simp,fun Y hY=>(ok Y hY).to (zpq (ok Y hY).at_ _),by rw[ew];exact I.nd,?_⟩
   · intro m hm;rw[z5i.mp hm];exact zgk ok (by omega)
   · have:=z6w List.length ew;rw[z6b,z6b]at this;rw[this];exact I.x5
def b4:C:=(zt (qv 9 (e2 jr (eV 7) (eA y9 (aC (eV 5) aN)))) (zt (qv 11 (zn qq (aC (e2s z8 (eV 5) (eV 9)) (aC (eV 1) (aC (e2 zfq (eV 8) (eK (.int 4))) aN))))) (zt (sIf (bE (e2 zev (eV 11) (eK .non))) (qz (eK (.bl false))) jz) (zng (eV 5) (eV 9) (eV 11)))))
theorem z25(I:In T i j kp wl n d dl ts ks xs h)(hx:xs≠[]):∃T' xs' o9' o11',b4 (eL a0 ts i kp wl a6 z wy o9 o10 o11) T=some (.nx (eL a0 ts i kp wl a6 z wy o9' o10 o11'),T')/\In T' i j kp wl n d dl ts ks xs' h:=by
 obtain⟨p,hp,cp⟩:=zex z (c:=xs.length) (z56.mpr hx);have ln:=I.ln;have a:=I.ok _ (z7a hp);obtain⟨X',ca,ew,ok'⟩:=zz9 I.K I.sb I.mkd (by omega) I.dd a (decide (4<wy));have hix:z8 T (.obj wl) (.int p)=some (xs[p]).tup:=by simp only[z8,I.wl_];exact zbf (by rw[z50,z44 hp];rfl)
 have hlen:y9 T [.obj wl]=some (.int (xs.length:Int)):=by simp[y9,I.wl_]
 have c1:cls (xs[p]).way≠"Shelf"/\cls (xs[p]).way≠"Wood":=by
   have hw:=a.way;generalize (xs[p]).way=q at hw
   match q,hw with
   |0,_=>exact⟨by decide +kernel,by decide +kernel⟩
   |1,_=>exact⟨by decide +kernel,by decide +kernel⟩
   |2,_=>exact⟨by decide +kernel,by decide +kernel⟩
 obtain⟨p1,p2,p3⟩:=zmo I.K a.at_ c1.1 c1.2;have nw:wl≠(xs[p]).w:=zjm I.wl_ a.at_;have nk:kp≠(xs[p]).w:=zjm I.kp_ a.at_;have li:=(z4y.mp I.K.s).1;have K1:=I.K.st (X'.obj i) p1 p2 p3;obtain⟨g,mk⟩:=ok'.mok;have sb1:SB (T.set (xs[p]).w (X'.obj i)):=zcb I.sb (zen li (Mk.bnd0 mk));have wl1:(T.set (xs[p]).w (X'.obj i))[wl]? = some (.lst (xs.map Wd.tup)):=by rw[z43 (z5x nw)];exact I.wl_
 have kp1:(T.set (xs[p]).w (X'.obj i))[kp]? = some (.lst ks):=by rw[z43 (z5x nk)];exact I.kp_
 have em:(xs.set p X').map Wd.w=xs.map Wd.w:=by
   rw[List.map_set,ew];apply z8n;intro q;by_cases e:p=q
   · subst e;rw[z5m (by rw[z6b];exact hp),z50,z44 hp];rfl
   · rw[z43 e]
 have ok1:∀Y∈xs.set p X',WOk (T.set (xs[p]).w (X'.obj i)) i dl ts.length Y:=fun Y hY=>by
   obtain⟨q,hq⟩:=List.getElem?_of_mem hY;by_cases e:p=q
   · subst e;rw[z5m hp]at hq;rw[<-z5s hq];exact ok'
   · rw[z43 e]at hq;have hm:=z60 hq;refine(I.ok Y hm).to (z43 fun z=>e ?_);refine(z8m (l:=xs.map Wd.w) (by rw[z6b];exact hp) I.nd).mp ?_;rw[z50,z50,hq,z44 hp];simp[z]
 refine⟨(T.set (xs[p]).w (X'.obj i)).set wl (.lst ((xs.set p X').map Wd.tup)),xs.set p X',some (.int p),some X'.tup,?_,?_⟩
 · rw[List.map_set];exact ze (zl (e_2 (e_v rfl) (e_a (a_c (e_v rfl) a_n) hlen) cp)) (ze (zl (zi (a_c (qs (e_v rfl) (e_v rfl) hix) (a_c (e_v rfl) (a_c (e_2 (e_v rfl) e_k (z3r _ _)) a_n))) ca)) (ze (zk (qp (e_2 (e_v rfl) e_k rfl))) (zp7 rfl rfl rfl wl1 (by rw[z6b];exact hp))))
 · refine⟨K1.st _ (zjm wl1 K1.w) (zjm wl1 K1.s) I.wj,zcb sb1 (zgk ok1 (z45 _)),I.mkd,I.ln,I.q,I.dd,?_,kn wl1,I.kj,I.wj,I.kw,I.kk,I.k0,fun Y hY=>(ok1 Y hY).to ?_,by rw[em];exact I.nd,by rw[z5a];exact I.x5⟩
   · rw[z43 (z5x I.kw)];exact kp1
   · rw[z43 (zjm wl1 (ok1 Y hY).at_)]
end Pg
namespace Pg
open PySem L2 F
noncomputable section
def zz5:C :=
 (zt (qv 1 (zdx [] (zv6 (e2 jr (zn yq (aC (eV 0) (aC (eK (.int 0)) aN))) (eK (.int 15)))) zmf (e2s z8 (zjr (aC (e2 zad (eV 0) (eK (.int 2))) (aC (eK (.str (Str.ofString ""))) aN))) (eA zwb (aC (e2 ki (eV 0) (eK (.int 1))) aN))))) (zt (qv 2 (zbe "Wood" (zpx 1 jt) aN)) (zt (qv 3 (zbe "Shelf" z9 (aC (eV 2) (aC (yi (aC (eV 1) aN)) aN)))) (zt (qv 4 (zc7 (aC (xq (aC (zw "Shelf" "make" qg (eV 3) aN) (aC (yi (aC (eV 1) aN)) aN))) aN))) (zt (qv 5 (zc7 aN)) (zt (zqa 6 (eK (.int 45)) (zt (qv 7 (zn yq (aC (eV 0) (aC (e2 qb (eK (.int 3)) (eV 6)) aN)))) (zt (qv 8 (e2 jr (eV 7) (eK (.int 10)))) (zt (qv 7 (e2 zbk (eV 7) (eK (.int 10)))) (sIf (bOr (zca (bE (e2 ki (eV 8) (eK (.int 0)))) (bE (e2 zai (eA y9 (aC (eV 5) aN)) (eK (.int 5))))) (bE (e2s zcj (eV 5) (zjr aN)))) (zt (kr (eV 5) (xq (aC (e2 jr (eV 7) (eK (.int 3))) (aC (zn xx (aC (eV 3) (aC (e2 jr (eV 7) (eK (.int 3))) aN))) (aC (yi (aC (eV 1) aN)) (aC (eK (.int 0)) (aC (eK .non) aN))))))) (sIf (zmg (bE (zay (eA (zja "AsItStands" "Walker" true) (aC (e2s z8 (e2s z8 (eV 5) (e1 zyf (eK (.int 1)))) (eK (.int 1))) (aC (eK (.fn "Walker")) aN))) (zay (eA (zja "AsItStood" "Walker" true) (aC (e2s z8 (e2s z8 (eV 5) (e1 zyf (eK (.int 1)))) (eK (.int 1))) (aC (eK (.fn "Walker")) aN))) (eA (zja "Strict" "Walker" true) (aC (e2s z8 (e2s z8 (eV 5) (e1 zyf (eK (.int 1)))) (eK (.int 1))) (aC (eK (.fn "Walker")) aN))))))) (qz (eK (.bl false))) jz)) (sIf (zca (bE (e2 ki (eV 8) (eK (.int 3)))) (bE (e2 ki (e2 jr (eV 7) (eK (.int 3))) (eK (.int 0))))) (zt (qv 9 (e2 jr (e2 zbk (eV 7) (eK (.int 3))) (e2 qb (eA y9 (aC (eV 1) aN)) (eK (.int 1))))) (zt (qv 3 (zw "Shelf" "cut" yu (eV 3) (aC (eV 9) aN))) (zt (qv 1 (eSl (eV 1) (pE (eV 9)) pN)) (zt (qv 4 (zc7 (aC (xq (aC (zw "Shelf" "make" qg (eV 3) aN) (aC (yi (aC (eV 1) aN)) aN))) aN))) (qv 5 (zc7 aN)))))) (sIf (zca (bE (e2 zai (eV 8) (eK (.int 3)))) (bE (e2 zai (eA y9 (aC (eV 1) aN)) (eK (.int 200))))) (zt (zmj [1,10] (zn xw (aC (eV 2) (aC (eV 3) (aC (eV 1) (aC (eV 4) (aC (eV 7) (aC (e2 qb (eK (.int 5000)) (e2 za4 (eK (.int 10)) (eV 6))) aN)))))))) (zt (kr (eV 4) (xq (aC (zw "Shelf" "make" qg (eV 3) aN) (aC (yi (aC (eV 1) aN)) aN)))) (qv 5 (zfe [10] (zv7 (eV 5)) zmf (zn ke (aC (eV 0) (aC (eV 1) aN))))))) (zt (qv 9 (e2 jr (eV 7) (eA y9 (aC (eV 5) aN)))) (zt (qv 11 (zn qq (aC (e2s z8 (eV 5) (eV 9)) (aC (eV 1) (aC (e2 zfq (eV 8) (eK (.int 4))) aN))))) (zt (sIf (bE (e2 zev (eV 11) (eK .non))) (qz (eK (.bl false))) jz) (zng (eV 5) (eV 9) (eV 11)))))))))))) (qz (e2 ki (zw "Shelf" "things" yz (eV 3) aN) (eV 1)))))))))
def g_law:G:=zu 12 1 zz5
end
end Pg
namespace Pg
open PySem L2 F Mt
variable {d d0 l r t x y o st v f:D}{ts us dl ks rt ws sm zs:List D}{h i j g rh w:Nat}{n m0 k0:Int}{S S0 S1 T T1 J:Sto}{ev:Ev}{p m W kp wl:Nat}{c:Str}{b s:Bool}{X:Wd}{xs:List Wd}{a0 a6:D}{z wy:Int}{o6 o7 o8 o9 o10 o11:Option D}
theorem zs0(S:Sto):∀(m:Nat) (lo:Int),∃us,zil (e2s z8 (zjr (aC (e2 zad (eV 0) (eK (.int 2))) (aC (eK (.str (Str.ofString ""))) aN))) (eA zwb (aC (e2 ki (eV 0) (eK (.int 1))) aN))) [] (j5 lo m) S=some (us,S)/\us.length=m/\∀x∈us,Thing 0 x
 |0,lo=>⟨[],rfl,rfl,fun _ hx=>by cases hx⟩
 | m+1,lo=>by
   obtain⟨us,c,l,t⟩:=zs0 S m (lo+1);obtain⟨x,hx,cx⟩:∃x,Thing 0 x/\e2s z8 (zjr (aC (e2 zad (eV 0) (eK (.int 2))) (aC (eK (.str (Str.ofString ""))) aN))) (eA zwb (aC (e2 ki (eV 0) (eK (.int 1))) aN)) [some (.int lo)] S=some (x,S):=by
     by_cases e:lo=1
     · exact⟨_,zwm (z:=Str.ofString "") (by decide),qs (zl6 (a_c (e_2 (e_v rfl) e_k (sub_int _ _)) (a_c e_k a_n)) (z4z rfl)) (e_a (a_c (e_2 (e_v rfl) e_k ((zfc _ _).trans (by rw[z49 e]))) a_n) rfl) rfl⟩
     · exact⟨_,zkf (lo-2),qs (zl6 (a_c (e_2 (e_v rfl) e_k (sub_int _ _)) (a_c e_k a_n)) (z4z rfl)) (e_a (a_c (e_2 (e_v rfl) e_k ((zfc _ _).trans (by rw[z47 e]))) a_n) rfl) rfl⟩
   refine⟨x::us,?_,by rw[List.length_cons,l],fun y hy=>(z5z.mp hy).elim (fun e=>by rw[e];exact hx) (t y)⟩;rw[zf4];simp only[zil,cx,Option.bind_some,c]
abbrev eM(a0:D)(ts:List D)(i kp wl:Nat)(o6 o7 o8 o9 o10 o11:Option D):Ev:=[some a0,some (.lst ts),some (.obj 0),some (.obj i),some (.obj kp),some (.obj wl),o6,o7,o8,o9,o10,o11]
def bB:C:=(sIf (bOr (zca (bE (e2 ki (eV 8) (eK (.int 0)))) (bE (e2 zai (eA y9 (aC (eV 5) aN)) (eK (.int 5))))) (bE (e2s zcj (eV 5) (zjr aN)))) b1 (sIf (zca (bE (e2 ki (eV 8) (eK (.int 3)))) (bE (e2 ki (e2 jr (eV 7) (eK (.int 3))) (eK (.int 0))))) b2 (sIf (zca (bE (e2 zai (eV 8) (eK (.int 3)))) (bE (e2 zai (eA y9 (aC (eV 1) aN)) (eK (.int 200))))) b3 b4)))
theorem z24{k:Int}(I:In T i j kp wl n d dl ts ks xs h)(hd:dl.length<900)(hk:ks.length<900)(z0:0<=z):∃T' i' j' kp' wl' n' d' dl' ts' ks' xs' h' o9' o10' o11',bB (eL a0 ts i kp wl (.int k) z wy o9 o10 o11) T=some (.nx (eL a0 ts' i' kp' wl' (.int k) z wy o9' o10' o11'),T')/\In T' i' j' kp' wl' n' d' dl' ts' ks' xs' h'/\dl'.length<=dl.length+1/\ks'.length<=ks.length+1:=by
 have hlen:y9 T [.obj wl]=some (.int (xs.length:Int)):=by simp[y9,I.wl_]
 have hnil:zcj T (.obj wl) (.lst [])=some (.bl (xs.map Wd.tup).isEmpty):=by simp only[zcj,I.wl_]
 have c1:=z1w (zdt (qp (e_2 (f:=eV 8) (ev:=eL a0 ts i kp wl (.int k) z wy o9 o10 o11) (S:=T) (e_v rfl) e_k (zfc wy 0))) (qp (e_2 (e_a (a_c (f:=eV 5) (e_v rfl) a_n) hlen) e_k (zq6 _ 5)))) (qp (qs (f:=eV 5) (e_v rfl) (zl6 a_n (z5t _)) hnil));by_cases q1:((decide (wy=0)&&decide ((xs.length:Int)<5))||(xs.map Wd.tup).isEmpty)=true
 · rw[q1]at c1;have hx:xs.length<5:=by
     rw[z8z,z5k,z5b,z5b,List.isEmpty_iff,List.map_eq_nil_iff]at q1;rcases q1 with⟨_,q⟩ | q
     · omega
     · rw[q];decide
   obtain⟨T',xs',c,I'⟩:=z28 (a0:=a0) (a6:=.int k) (z:=z) (wy:=wy) (o9:=o9) (o10:=o10) (o11:=o11) I hx;exact⟨T',i,j,kp,wl,n,d,dl,ts,ks,xs',h,o9,o10,o11,zy c1 c,I',by omega,by omega⟩
 rw[z8u]at q1;rw[q1]at c1;have hx:xs≠[]:=by rw[Bool.or_eq_false_iff]at q1;intro e;rw[e]at q1;cases q1.2
 have c2:=zdt (qp (e_2 (f:=eV 8) (ev:=eL a0 ts i kp wl (.int k) z wy o9 o10 o11) (S:=T) (e_v rfl) e_k (zfc wy 3))) (qp (e_2 (e_2 (f:=eV 7) (e_v rfl) e_k (zcw (x:=z) (j:=3) (by decide))) e_k (zfc _ 0)));by_cases q2:(decide (wy=3)&&decide (z%3=0))=true
 · rw[q2]at c2;obtain⟨T',i',j',kp',wl',n',d',ts',ks',h',o9',c,I',lk⟩:=z27 (a0:=a0) (a6:=.int k) (z:=z) (wy:=wy) (o9:=o9) (o10:=o10) (o11:=o11) I (by omega);exact⟨T',i',j',kp',wl',n',d',[],ts',ks',[],h',o9',o10,o11,zeo c1 (zy c2 c),I',z5t _,by omega⟩
 rw[z8u]at q2;rw[q2]at c2;have c3:=zdt (qp (e_2 (f:=eV 8) (ev:=eL a0 ts i kp wl (.int k) z wy o9 o10 o11) (S:=T) (e_v rfl) e_k (zq6 wy 3))) (qp (e_2 (e_a (a_c (f:=eV 1) (e_v rfl) a_n) (op:=y9) (d:=.int (ts.length:Int)) rfl) e_k (zq6 _ 200)));by_cases q3:(decide (wy<3)&&decide ((ts.length:Int)<200))=true
 · rw[q3]at c3;rw[z5k,z5b,z5b]at q3;obtain⟨T',wl',n',d',dl',ts',ks',xs',h',o10',c,I',l1,l2⟩:=z26 (a0:=a0) (k:=k) (z:=z) (wy:=wy) (o9:=o9) (o10:=o10) (o11:=o11) I (by omega) (by omega) z0 (by omega);exact⟨T',i,j,kp,wl',n',d',dl',ts',ks',xs',h',o9,o10',o11,zeo c1 (zeo c2 (zy c3 c)),I',by omega,by omega⟩
 rw[z8u]at q3;rw[q3]at c3;obtain⟨T',xs',o9',o11',c,I'⟩:=z25 (a0:=a0) (a6:=.int k) (z:=z) (wy:=wy) (o9:=o9) (o10:=o10) (o11:=o11) I hx;exact⟨T',i,j,kp,wl,n,d,dl,ts,ks,xs',h,o9',o10,o11',zeo c1 (zeo c2 (zeo c3 c)),I',by omega,by omega⟩
def mB':C:=(zt (qv 7 (zn yq (aC (eV 0) (aC (e2 qb (eK (.int 3)) (eV 6)) aN)))) (zt (qv 8 (e2 jr (eV 7) (eK (.int 10)))) (zt (qv 7 (e2 zbk (eV 7) (eK (.int 10)))) bB)))
theorem zib(ns:List Int)(hn:ns.length<=63):∀(js:List D),(∀x∈js,∃i:Int,x=.int i/\0<=i/\i<10000)->∀{T:Sto}{i j kp wl:Nat}{n:Int}{d:D}{dl ts ks:List D}{xs:List Wd}{h:Nat} (o6 o7 o8 o9 o10 o11:Option D),In T i j kp wl n d dl ts ks xs h->dl.length+js.length<900->ks.length+js.length<900 ->
   ∃T' i' j' kp' wl' n' d' dl' ts' ks' xs' h' o6' o7' o8' o9' o10' o11',zcx 6 mB' js (eM (.lst (ns.map D.int)) ts i kp wl o6 o7 o8 o9 o10 o11) T=some (.nx (eM (.lst (ns.map D.int)) ts' i' kp' wl' o6' o7' o8' o9' o10' o11'),T')/\In T' i' j' kp' wl' n' d' dl' ts' ks' xs' h'
 | [],_,T,i,j,kp,wl,n,d,dl,ts,ks,xs,h,o6,o7,o8,o9,o10,o11,I,_,_=>⟨T,i,j,kp,wl,n,d,dl,ts,ks,xs,h,o6,o7,o8,o9,o10,o11,rfl,I⟩
 | jj::js,hj,T,i,j,kp,wl,n,d,dl,ts,ks,xs,h,o6,o7,o8,o9,o10,o11,I,l1,l2=>by obtain⟨k,rfl,k0,k1⟩:=hj jj (z5w ..);rw[List.length_cons]at l1 l2;obtain⟨c,c0,_,hc⟩:=zpd ns hn (q:=3+k) (by omega) (by omega);obtain⟨T',i',j',kp',wl',n',d',dl',ts',ks',xs',h',o9',o10',o11',cb,I',q1,q2⟩:=z24 (a0:=.lst (ns.map D.int)) (k:=k) (z:=c/10) (wy:=c%10) (o9:=o9) (o10:=o10) (o11:=o11) I (by omega) (by omega) (Int.ediv_nonneg c0 (by decide));obtain⟨T2,i2,j2,kp2,wl2,n2,d2,dl2,ts2,ks2,xs2,h2,p6,p7,p8,p9,p10,p11,lp,I2⟩:=zib ns hn js (fun x hx=>hj x (z5d _ hx)) (some (.int k)) (some (.int (c/10))) (some (.int (c%10))) o9' o10' o11' I' (by omega) (by omega);exact⟨T2,i2,j2,kp2,wl2,n2,d2,dl2,ts2,ks2,xs2,h2,p6,p7,p8,p9,p10,p11,zoc (ze (zl (zi (a_c (e_v rfl) (a_c (e_2 e_k (e_v rfl) (add_int _ _)) a_n)) (hc _))) (ze (zl (e_2 (e_v rfl) e_k (zcw (by decide)))) (ze (zl (e_2 (e_v rfl) e_k (zhh (by decide)))) cb))) lp,I2⟩
theorem law_ok:z0j g_law:=by
 intro ns hn;obtain⟨c0,_,_,hc0⟩:=zpd ns hn (q:=0) (by decide) (by decide);have w0:=z6d c0 (show(15:Int)≠0 by decide);have w1:=z54 c0 (show(0:Int)<15 by decide);obtain⟨ts,ct,lt,tt⟩:=zs0 [] (c0%15).toNat 0;obtain⟨d,h,n1,cs,m⟩:=zna (n:=0) (T:=[wd (yb 0) 0]) (ts:=ts) (ev:=[some (.lst (ns.map D.int)),some (.lst ts),some (.obj 0),none,none,none,none,none,none,none,none,none]) (f:=eV 2) (g:=yi (aC (eV 1) aN)) (e_v rfl) (zdi (e_v rfl)) rfl tt (by omega);have kp0:Kp 202 (.tup [d,.lst ts]):=⟨d,ts,h,rfl,m,by omega⟩
 have I0:In [wd (yb 0) n1,shf d 2,.lst [],.lst [.tup [d,.lst ts]],.lst []] 1 2 3 4 n1 d [] ts [.tup [d,.lst ts]] [] h:=by
   refine⟨⟨rfl,rfl,rfl,by decide,by decide,by decide⟩,?_,m,by omega,fun _ hv=>(by cases hv),fun _ hv=>(by cases hv),rfl,rfl,by decide,by decide,by decide,fun x hx=>by rw[z5i.mp hx];exact kp0,Nat.one_pos,fun _ hv=>(by cases hv),z84,by decide⟩;intro z hz;simp only[z5z,z8r,or_false]at hz;rcases hz with rfl | rfl | rfl | rfl | rfl
   · exact zr4 (k:=0) _ _
   · exact zjg (by show 2<5;decide) (Mk.bnd0 m)
   · rfl
   · exact zfo fun x hx=>by rw[z5i.mp hx];exact zdb kp0.bnd0
   · rfl
 obtain⟨T',i',j',kp',wl',n',d',dl',ts',ks',xs',h',p6,p7,p8,p9,p10,p11,lp,I⟩:=zib ns hn (j5 0 45) (rng (by decide)) none none none none none none I0 (by rw[zni];decide) (by rw[zni];show 1+45<900;decide);have ln:=I.ln;exact⟨_,ju rfl (ze (zl (zk6 (e_2 (zi (a_c (e_v rfl) (a_c e_k a_n)) (hc0 _)) e_k (zcw (by decide))) w0 (by omega) ct)) (ze (zl zs9) (ze (zl cs) (ze (zl (zgg (a_c (jo (a_c (zia (i:=1) (d:=d) (j:=2) rfl rfl) (a_c (zdi (e_v rfl)) a_n)) (z4z rfl)) a_n) (z4z rfl))) (ze (zl (zgg a_n (z5t _))) (ze (ztn (b:=mB') (n:=45) e_k (by decide) (by decide) lp) (zq (e_2 (zp3 rfl I.K.s I.mkd (by omega) I.sb) (e_v rfl) (z2s (zeu (by decide) (zxw I.mkd.things)))))))))))⟩
end Pg
namespace Pg
open PySem L2 F PySem.Spec PyProof.Rows
variable {P:Program}{w:World}{K:zFr}{mg:zMg}{base:Heap}{f:Addr}{cdv:Value}{A:Around}{outer:List Env}{s:Shared}{H:Hp}{E:XK}
seal F.FE F.FB F.FW F.FA F.FS F.FSs F.FPt F.RE F.RS F.RSs F.RTs
def top(i:Nat):Stmt:=PySem.Challenge.pw_ownshelf_k44_whole_walkers_together.main.body.getD i (.Pass ⟨0,0,0,0⟩)
theorem _root_.L2.FnScope.auto7{N P:List Str}{sc:Scope}(h1:sc.kind=.function:=by rfl)(h2:sc.isCoroutine=false:=by rfl)(h3:sc.isGenerator=false:=by rfl)(h4:N.Nodup:=by decide +kernel)(h5:N.take P.length=P:=by rfl)(h6:∀x∈P,sc.names.lookup x=some .local\/sc.names.lookup x=some .cell:=by decide +kernel)(h7:∀y∈sc.names,y.2≠.free:=by decide +kernel):L2.FnScope N P sc:=⟨h1,h2,h3,h4,h5,h6,h7⟩
theorem _root_.L2.Room.rmd{j k:Nat}{A:Around}(r:Room k A)(h:j<=k:=by decide):Room j A:=r.mono h
abbrev s_Wood_numbered:Stmt:=ja (top 41) 4
abbrev s_check_room:Stmt:=top 40
abbrev s_height:Stmt:=top 22
abbrev s_height_above:Stmt:=top 28
abbrev s_in_balance:Stmt:=top 29
abbrev s_size:Stmt:=top 21
abbrev s_size_above:Stmt:=top 27
abbrev s_back:Stmt:=top 24
abbrev s_backward_sum:Stmt:=top 32
abbrev s_total:Stmt:=top 23
abbrev s_onward_sum:Stmt:=top 31
abbrev s_sums_above:Stmt:=top 30
abbrev s_Wood_node:Stmt:=ja (top 41) 2
abbrev s_built:Stmt:=top 46
abbrev s_make_of:Stmt:=top 45
abbrev s_Shelf___init__:Stmt:=ja (top 73) 0
abbrev s_Shelf_hold:Stmt:=ja (top 73) 4
abbrev s_check_place:Stmt:=top 43
abbrev s_Wood_turned:Stmt:=ja (top 41) 3
abbrev s_parts:Stmt:=top 25
abbrev s_lifted_left:Stmt:=top 36
abbrev s_lifted_right:Stmt:=top 37
abbrev s_balanced:Stmt:=top 35
abbrev s_joined:Stmt:=top 34
abbrev s_cut_ahead:Stmt:=top 64
abbrev s_cut:Stmt:=top 62
abbrev s_Shelf_cut:Stmt:=ja (top 73) 10
abbrev s_Shelf_make:Stmt:=ja (top 73) 1
abbrev s_seen:Stmt:=top 26
abbrev s_gather:Stmt:=top 48
abbrev s_things_of:Stmt:=top 47
abbrev s_Shelf_things:Stmt:=ja (top 73) 2
abbrev s_Wood___init__:Stmt:=ja (top 41) 0
abbrev s__law_due:Stmt:=top 82
abbrev s_Shelf_deeds:Stmt:=ja (top 73) 3
abbrev s_AsItStands_new_deeds:Stmt:=ja (top 68) 2
abbrev s_moved:Stmt:=top 67
abbrev s_AsItStands_row:Stmt:=ja (top 70) 0
abbrev s_AsItStands_more:Stmt:=ja (top 68) 3
abbrev s_thing_at:Stmt:=top 50
abbrev s_at:Stmt:=top 49
abbrev s_AsItStands_step:Stmt:=ja (top 68) 4
abbrev s_AsItStood_row:Stmt:=ja (top 68) 1
abbrev s_AsItStood_more:Stmt:=ja (top 68) 3
abbrev s_AsItStood_step:Stmt:=ja (top 68) 4
abbrev s_Strict_new_deeds:Stmt:=ja (top 68) 2
abbrev s_Strict_row:Stmt:=ja (top 71) 0
abbrev s_Strict_more:Stmt:=ja (top 68) 3
abbrev s_Strict_step:Stmt:=ja (top 68) 4
abbrev s__law_heard:Stmt:=top 81
abbrev s__law_asked:Stmt:=top 83
abbrev s_AsItStands___init__:Stmt:=ja (top 68) 0
abbrev s_AsItStood___init__:Stmt:=ja (top 68) 0
abbrev s_Strict___init__:Stmt:=ja (top 68) 0
abbrev s__law_begun:Stmt:=top 80
abbrev s__law_mark:Stmt:=top 79
abbrev s__law_behind:Stmt:=top 84
abbrev s__law_cell:Stmt:=top 75
abbrev s_Shelf_back:Stmt:=ja (top 73) 11
abbrev s_laid_together:Stmt:=top 61
abbrev s_taken_out:Stmt:=top 56
abbrev s_out:Stmt:=top 54
abbrev s_Shelf_out:Stmt:=ja (top 73) 6
abbrev s_given:Stmt:=top 58
abbrev s_swapped:Stmt:=top 57
abbrev s_Shelf_swap:Stmt:=ja (top 73) 7
abbrev s_check_stretch:Stmt:=top 44
abbrev s_turned_part:Stmt:=top 65
abbrev s_Shelf_turned:Stmt:=ja (top 73) 8
abbrev s_laid:Stmt:=top 59
abbrev s_Shelf_laid:Stmt:=ja (top 73) 9
abbrev s__law_laid:Stmt:=top 77
abbrev s_put_in:Stmt:=top 53
abbrev s_put:Stmt:=top 51
abbrev s_Shelf_put:Stmt:=ja (top 73) 5
abbrev s__law_put_in:Stmt:=top 76
abbrev s__law_done:Stmt:=top 78
abbrev s_law:Stmt:=top 85
abbrev s_Changed___init__:Stmt:=ja (top 7) 0
structure TX (K:zFr) (mg:zMg):Prop where
 ui1:mg "abs"=none
 uiz:mg "int"=none
 ubn:mg "isinstance"=none
 uah:mg "len"=none
 ubc:mg "list"=none
 ui4:mg "max"=none
 ud4:mg "range"=none
 ug6:mg "reversed"=none
 ud3:∃t,mg "ABOUT"=some (.int 1 t)
 uab:∃t,mg "AHEAD"=some (.int 0 t)
 uim:∃t,mg "BACK"=some (.int 8 t)
 uac:∃t,mg "BEHIND"=some (.int 2 t)
 uhu:∃t,mg "HEIGHT"=some (.int 6 t)
 ucm:∃t,mg "LEFT"=some (.int 2 t)
 uag:∃t,mg "MIDDLE"=some (.int 1 t)
 ueq:∃t,mg "MOST_THINGS"=some (.int 2000 t)
 ub0:∃t,mg "RIGHT"=some (.int 4 t)
 uiv:∃t,mg "SIZE"=some (.int 5 t)
 ubw:∃t,mg "THING"=some (.int 3 t)
 uid:∃t,mg "TOTAL"=some (.int 7 t)
 ub5:∃t,mg "TURNED"=some (.int 3 t)
 uae:Fld K mg "AsItStands" "mark"
 uao:Fld K mg "AsItStands" "met"
 uat:Fld K mg "AsItStands" "shelf"
 uck:Fld K mg "AsItStands" "stood"
 uaj:Fld K mg "AsItStood" "mark"
 uds:Fld K mg "AsItStood" "met"
 uct:Fld K mg "AsItStood" "shelf"
 ubf:Fld K mg "AsItStood" "stood"
 ubm:Fld K mg "Shelf" "done"
 uaf:Fld K mg "Shelf" "held"
 ual:Fld K mg "Shelf" "wood"
 uam:Fld K mg "Strict" "mark"
 ucn:Fld K mg "Strict" "met"
 ub2:Fld K mg "Strict" "shelf"
 ubx:Fld K mg "Strict" "stood"
 ub8:Fld K mg "Wood" "adding"
 uav:Fld K mg "Wood" "nodes_made"
 ov_Walker:∃f,mg "Walker"=some (.ref f)
 o_AsItStands_Walker:IsOwn K mg "AsItStands" "Walker" true
 o_AsItStood_Walker:IsOwn K mg "AsItStood" "Walker" true
 o_Strict_Walker:IsOwn K mg "Strict" "Walker" true
 uc6:ExcCls K mg "NoMore"
 xi_Changed:HasXI K mg "Changed" "ShelfError" "deed" "Changed.__init__" s_Changed___init__
 xf_Changed_deed:XFld K mg "Changed" "deed"
 ct_Changed:∀c∈ct_Changed,CatB K mg c "Changed" true
 no_Changed:∀c∈no_Changed,CatB K mg c "Changed" false
 ct_NoMore:∀c∈ct_NoMore,CatB K mg c "NoMore" true
 no_NoMore:∀c∈no_NoMore,CatB K mg c "NoMore" false
 al_cut_rows:mg "cut_rows"=mg "cut"
 al_laid_rows:mg "laid_rows"=mg "laid"
 al_out_rows:mg "out_rows"=mg "out"
 al_put_rows:mg "put_rows"=mg "put"
 udj:HasMth K mg "Wood" "numbered" "Wood.numbered" s_Wood_numbered
 uf5:HasDef K mg "check_room" s_check_room 0
 uhx:HasDef K mg "height" s_height 0
 ud5:HasDef K mg "height_above" s_height_above 0
 uf8:HasDef K mg "in_balance" s_in_balance 0
 uis:HasDef K mg "size" s_size 0
 uf9:HasDef K mg "size_above" s_size_above 0
 uin:HasDef K mg "back" s_back 0
 ued:HasDef K mg "backward_sum" s_backward_sum 0
 uic:HasDef K mg "total" s_total 0
 uf1:HasDef K mg "onward_sum" s_onward_sum 0
 ugi:HasDef K mg "sums_above" s_sums_above 0
 ugr:HasMth K mg "Wood" "node" "Wood.node" s_Wood_node
 ug2:HasDef K mg "built" s_built 0
 uhl:HasDef K mg "make_of" s_make_of 0
 ubj:HasMk K mg "Shelf" "Shelf.__init__" s_Shelf___init__ 1
 uge:HasMth K mg "Shelf" "hold" "Shelf.hold" s_Shelf_hold
 uet:HasDef K mg "check_place" s_check_place 0
 uew:HasMth K mg "Wood" "turned" "Wood.turned" s_Wood_turned
 uih:HasDef K mg "parts" s_parts 0
 ues:HasDef K mg "lifted_left" s_lifted_left 0
 ueh:HasDef K mg "lifted_right" s_lifted_right 0
 ug5:HasDef K mg "balanced" s_balanced 0
 uf3:HasDef K mg "joined" s_joined 0
 uc4:HasDef K mg "cut_ahead" s_cut_ahead 0
 ui5:HasDef K mg "cut" s_cut 0
 ugs:HasMth K mg "Shelf" "cut" "Shelf.cut" s_Shelf_cut
 ufu:HasMth K mg "Shelf" "make" "Shelf.make" s_Shelf_make
 uir:HasDef K mg "seen" s_seen 0
 uft:HasDef K mg "gather" s_gather 0
 ugn:HasDef K mg "things_of" s_things_of 0
 ud1:HasMth K mg "Shelf" "things" "Shelf.things" s_Shelf_things
 ubq:HasMk K mg "Wood" "Wood.__init__" s_Wood___init__ 1
 uhd:HasDef K mg "_law_due" s__law_due 0
 ufc:HasMth K mg "Shelf" "deeds" "Shelf.deeds" s_Shelf_deeds
 ubu:HasMth K mg "AsItStands" "new_deeds" "Walker.new_deeds" s_AsItStands_new_deeds
 uh8:HasDef K mg "moved" s_moved 0
 udh:HasMth K mg "AsItStands" "row" "AsItStands.row" s_AsItStands_row
 ucz:HasMth K mg "AsItStands" "more" "Walker.more" s_AsItStands_more
 udt:HasDef K mg "thing_at" s_thing_at 0
 ui8:HasDef K mg "at" s_at 0
 ubg:HasMth K mg "AsItStands" "step" "Walker.step" s_AsItStands_step
 udx:HasMth K mg "AsItStood" "row" "Walker.row" s_AsItStood_row
 udb:HasMth K mg "AsItStood" "more" "Walker.more" s_AsItStood_more
 ubk:HasMth K mg "AsItStood" "step" "Walker.step" s_AsItStood_step
 ucj:HasMth K mg "Strict" "new_deeds" "Walker.new_deeds" s_Strict_new_deeds
 uci:HasMth K mg "Strict" "row" "Strict.row" s_Strict_row
 ub6:HasMth K mg "Strict" "more" "Walker.more" s_Strict_more
 ub7:HasMth K mg "Strict" "step" "Walker.step" s_Strict_step
 ufx:HasDef K mg "_law_heard" s__law_heard 0
 uf0:HasDef K mg "_law_asked" s__law_asked 0
 uby:HasMk K mg "AsItStands" "Walker.__init__" s_AsItStands___init__ 0
 ub4:HasMk K mg "AsItStood" "Walker.__init__" s_AsItStood___init__ 0
 ucs:HasMk K mg "Strict" "Walker.__init__" s_Strict___init__ 0
 ufw:HasDef K mg "_law_begun" s__law_begun 0
 ugl:HasDef K mg "_law_mark" s__law_mark 0
 ufi:HasDef K mg "_law_behind" s__law_behind 0
 ugv:HasDef K mg "_law_cell" s__law_cell 0
 uf2:HasMth K mg "Shelf" "back" "Shelf.back" s_Shelf_back
 udo:HasDef K mg "laid_together" s_laid_together 0
 uc3:HasDef K mg "taken_out" s_taken_out 0
 ui3:HasDef K mg "out" s_out 0
 ugu:HasMth K mg "Shelf" "out" "Shelf.out" s_Shelf_out
 ug3:HasDef K mg "given" s_given 0
 uhm:HasDef K mg "swapped" s_swapped 0
 ugh:HasMth K mg "Shelf" "swap" "Shelf.swap" s_Shelf_swap
 udn:HasDef K mg "check_stretch" s_check_stretch 0
 uey:HasDef K mg "turned_part" s_turned_part 0
 uel:HasMth K mg "Shelf" "turned" "Shelf.turned" s_Shelf_turned
 uiu:HasDef K mg "laid" s_laid 0
 ufo:HasMth K mg "Shelf" "laid" "Shelf.laid" s_Shelf_laid
 ug1:HasDef K mg "_law_laid" s__law_laid 0
 ugd:HasDef K mg "put_in" s_put_in 0
 ui0:HasDef K mg "put" s_put 0
 ugm:HasMth K mg "Shelf" "put" "Shelf.put" s_Shelf_put
 ufe:HasDef K mg "_law_put_in" s__law_put_in 0
 ugz:HasDef K mg "_law_done" s__law_done 0
 ui6:HasDef K mg "law" s_law 0
theorem zcg:FnScope ["self", "deed"] ["self", "deed"] (zg s_Changed___init__):=.auto7
theorem zl3(T:TX K mg):XInit P w K mg base 1 "Changed" (Str.ofString "the shelf has changed: ") "deed":=T.xi_Changed.xinit (k:=0) zcg (fun _ _ _ _ _ _=>ls2 fun _ _=>rfl) rfl (fun C fI cdv A outer s H E hx hs hr=>zqm hx T.xi_Changed.base hs hr)
theorem sc_Wood_numbered:FnScope ["self", "rest", "number"] ["self", "rest"] (zg s_Wood_numbered):=.auto7
theorem sc_check_room:FnScope ["things"] ["things"] (zg s_check_room):=.auto7
theorem sc_height:FnScope ["make"] ["make"] (zg s_height):=.auto7
theorem sc_height_above:FnScope ["left", "right"] ["left", "right"] (zg s_height_above):=.auto7
theorem sc_in_balance:FnScope ["left", "right"] ["left", "right"] (zg s_in_balance):=.auto7
theorem sc_size:FnScope ["make"] ["make"] (zg s_size):=.auto7
theorem sc_size_above:FnScope ["left", "right"] ["left", "right"] (zg s_size_above):=.auto7
theorem sc_back:FnScope ["make"] ["make"] (zg s_back):=.auto7
theorem sc_backward_sum:FnScope ["add", "left", "thing", "right", "result"] ["add", "left", "thing", "right"] (zg s_backward_sum):=.auto7
theorem sc_total:FnScope ["make"] ["make"] (zg s_total):=.auto7
theorem sc_onward_sum:FnScope ["add", "left", "thing", "right", "result"] ["add", "left", "thing", "right"] (zg s_onward_sum):=.auto7
theorem sc_sums_above:FnScope ["add", "left", "thing", "right"] ["add", "left", "thing", "right"] (zg s_sums_above):=.auto7
theorem sc_Wood_node:FnScope ["self", "left", "thing", "right", "things", "measures", "sums"] ["self", "left", "thing", "right"] (zg s_Wood_node):=.auto7
theorem sc_built:FnScope ["wood", "things", "start", "end", "middle", "left", "right"] ["wood", "things", "start", "end"] (zg s_built):=.auto7
theorem sc_make_of:FnScope ["wood", "things"] ["wood", "things"] (zg s_make_of):=.auto7
theorem sc_Shelf___init__:FnScope ["self", "wood", "things"] ["self", "wood", "things"] (zg s_Shelf___init__):=.auto7
theorem zbi(T:TX K mg)(ubb:Cal P w K mg base 46 "make_of" za1)(hr:Room 46 (A.deeper (envOfC "Shelf.__init__" (zg s_Shelf___init__) s.heap.objs.size f cdv))) :
   FSs (zfr CX0 P w K mg base ["self", "wood", "things"] "Shelf.__init__" (zg s_Shelf___init__) f cdv A outer s H E).nox (xo s_Shelf___init__) zbj:=by
 have nd:=sc_Shelf___init__.nd;exact(zb (xb T.ual (zd 0) (zd 1)) (zb (xb T.uaf (zd 0) jl) (zb (xb T.ubm (zd 0) (zdm zc)) (zf (ql (zb7 (zd 2) jl) (zf (xb T.uaf (zd 0) (zh ubb hr.rmd (za (zd 1) (za (zd 2) zc))))) zp)))))
theorem zdj(T:TX K mg)(ubb:Cal P w K mg base 46 "make_of" za1):Mak P w K mg base 47 "Shelf" z9:=T.ubj.mk1 sc_Shelf___init__ (fun _ _ _ _ _ _ _=>ls3 fun _ _ _=>⟨_,rfl,rfl⟩) (fun f cdv A outer s H E hr=>zbi T ubb hr)
theorem zdk(T:TX K mg)(ubb:Cal P w K mg base 46 "make_of" za1):Mak P w K mg base 47 "Shelf" (zpx 1 z9):=T.ubj.mk1d sc_Shelf___init__ rfl (fun _ _ _ _ _ _ _=>ls2 fun _ _=>⟨_,rfl,rfl⟩) (fun f cdv A outer s H E hr=>zbi T ubb hr)
theorem sc_Shelf_hold:FnScope ["self", "make", "deed"] ["self", "make", "deed"] (zg s_Shelf_hold):=.auto7
theorem sc_check_place:FnScope ["place", "end"] ["place", "end"] (zg s_check_place):=.auto7
theorem sc_Wood_turned:FnScope ["self", "make", "row"] ["self", "make"] (zg s_Wood_turned):=.auto7
theorem sc_parts:FnScope ["wood", "make", "ahead", "behind"] ["wood", "make"] (zg s_parts):=.auto7
theorem sc_lifted_left:FnScope ["wood", "left", "thing", "right", "outer", "inner", "ahead", "behind"] ["wood", "left", "thing", "right"] (zg s_lifted_left):=.auto7
theorem sc_lifted_right:FnScope ["wood", "left", "thing", "right", "outer", "inner", "ahead", "behind"] ["wood", "left", "thing", "right"] (zg s_lifted_right):=.auto7
theorem sc_balanced:FnScope ["wood", "left", "thing", "right"] ["wood", "left", "thing", "right"] (zg s_balanced):=.auto7
theorem sc_joined:FnScope ["wood", "left", "thing", "right", "row"] ["wood", "left", "thing", "right"] (zg s_joined):=.auto7
theorem sc_cut_ahead:FnScope ["wood", "make", "place", "row", "middle", "halves"] ["wood", "make", "place"] (zg s_cut_ahead):=.auto7
theorem sc_cut:FnScope ["wood", "make", "place"] ["wood", "make", "place"] (zg s_cut):=.auto7
theorem sc_Shelf_cut:FnScope ["self", "place", "halves", "others"] ["self", "place"] (zg s_Shelf_cut):=.auto7
theorem sc_Shelf_make:FnScope ["self"] ["self"] (zg s_Shelf_make):=.auto7
theorem sc_seen:FnScope ["make", "turned"] ["make", "turned"] (zg s_seen):=.auto7
theorem sc_gather:FnScope ["make", "turned", "found", "row"] ["make", "turned", "found"] (zg s_gather):=.auto7
theorem sc_things_of:FnScope ["make", "found"] ["make"] (zg s_things_of):=.auto7
theorem sc_Shelf_things:FnScope ["self"] ["self"] (zg s_Shelf_things):=.auto7
theorem sc_Wood___init__:FnScope ["self", "add"] ["self", "add"] (zg s_Wood___init__):=.auto7
theorem zbw(T:TX K mg)(hr:Room 0 (A.deeper (envOfC "Wood.__init__" (zg s_Wood___init__) s.heap.objs.size f cdv))) :
   FSs (zfr CX0 P w K mg base ["self", "add"] "Wood.__init__" (zg s_Wood___init__) f cdv A outer s H E).nox (xo s_Wood___init__) zan:=by
 have nd:=sc_Wood___init__.nd;exact(zb (xb T.ub8 (zd 0) (zd 1)) (zf (xb T.uav (zd 0) zj)))
theorem zd2(T:TX K mg):Mak P w K mg base 1 "Wood" jt:=T.ubq.mk1 sc_Wood___init__ (fun _ _ _ _ _ _ _=>ls2 fun _ _=>⟨_,rfl,rfl⟩) (fun f cdv A outer s H E hr=>zbw T  hr)
theorem zd3(T:TX K mg):Mak P w K mg base 1 "Wood" (zpx 1 jt):=T.ubq.mk1d sc_Wood___init__ rfl (fun _ _ _ _ _ _ _=>ls1 fun _=>⟨_,rfl,rfl⟩) (fun f cdv A outer s H E hr=>zbw T  hr)
theorem sc__law_due:FnScope ["_law_one", "_law_things", "_law_stepped", "_law_way", "_law_walker", "_law_some", "_law_mark_here", "_law_first"] ["_law_one", "_law_things", "_law_stepped"] (zg s__law_due):=.auto7
theorem sc_Shelf_deeds:FnScope ["self"] ["self"] (zg s_Shelf_deeds):=.auto7
theorem sc_AsItStands_new_deeds:FnScope ["self"] ["self"] (zg s_AsItStands_new_deeds):=.auto7
theorem sc_moved:FnScope ["mark", "deed", "name"] ["mark", "deed"] (zg s_moved):=.auto7
theorem sc_AsItStands_row:FnScope ["self", "deed"] ["self"] (zg s_AsItStands_row):=.auto7
theorem sc_AsItStands_more:FnScope ["self", "make"] ["self"] (zg s_AsItStands_more):=.auto7
theorem sc_thing_at:FnScope ["make", "turned", "place", "row", "middle"] ["make", "turned", "place"] (zg s_thing_at):=.auto7
theorem sc_at:FnScope ["make", "place"] ["make", "place"] (zg s_at):=.auto7
theorem sc_AsItStands_step:FnScope ["self", "make", "thing"] ["self"] (zg s_AsItStands_step):=.auto7
theorem sc_AsItStood_row:FnScope ["self"] ["self"] (zg s_AsItStood_row):=.auto7
theorem sc_AsItStood_more:FnScope ["self", "make"] ["self"] (zg s_AsItStood_more):=.auto7
theorem sc_AsItStood_step:FnScope ["self", "make", "thing"] ["self"] (zg s_AsItStood_step):=.auto7
theorem sc_Strict_new_deeds:FnScope ["self"] ["self"] (zg s_Strict_new_deeds):=.auto7
theorem sc_Strict_row:FnScope ["self", "since"] ["self"] (zg s_Strict_row):=.auto7
theorem sc_Strict_more:FnScope ["self", "make"] ["self"] (zg s_Strict_more):=.auto7
theorem sc_Strict_step:FnScope ["self", "make", "thing"] ["self"] (zg s_Strict_step):=.auto7
theorem sc__law_heard:FnScope ["_law_walker", "_law_stepped", "_law_heard_here", "e"] ["_law_walker", "_law_stepped"] (zg s__law_heard):=.auto7
theorem sc__law_asked:FnScope ["_law_one", "_law_things", "_law_stepped", "_law_due_here", "_law_way", "_law_walker", "_law_some", "_law_mark_here", "_law_first"] ["_law_one", "_law_things", "_law_stepped"] (zg s__law_asked):=.auto7
theorem sc_AsItStands___init__:FnScope ["self", "shelf"] ["self", "shelf"] (zg s_AsItStands___init__):=.auto7
theorem sc_AsItStood___init__:FnScope ["self", "shelf"] ["self", "shelf"] (zg s_AsItStood___init__):=.auto7
theorem sc_Strict___init__:FnScope ["self", "shelf"] ["self", "shelf"] (zg s_Strict___init__):=.auto7
theorem sc__law_begun:FnScope ["_law_shelf", "_law_way"] ["_law_shelf", "_law_way"] (zg s__law_begun):=.auto7
theorem sc__law_mark:FnScope ["_law_mark_here", "_law_deed"] ["_law_mark_here", "_law_deed"] (zg s__law_mark):=.auto7
theorem sc__law_behind:FnScope ["_law_one", "_law_deed", "_law_way", "_law_walker", "_law_some", "_law_mark_here", "_law_first"] ["_law_one", "_law_deed"] (zg s__law_behind):=.auto7
theorem sc__law_cell:FnScope ["_law_script", "_law_k", "_law_cell_here"] ["_law_script", "_law_k"] (zg s__law_cell):=.auto7
theorem sc_Shelf_back:FnScope ["self", "make"] ["self", "make"] (zg s_Shelf_back):=.auto7
theorem sc_laid_together:FnScope ["wood", "one", "other"] ["wood", "one", "other"] (zg s_laid_together):=.auto7
theorem zff(T:TX K mg)(ua6:Cal P w K mg base (7+40) "joined" (zae 40))(uau:Cal P w K mg base (2+40) "thing_at" (kv 40)){self:G}{n:Nat}(hself:Cal P w K mg base (48+2*n) "taken_out" self)(hr0:Room (48+2*n) (A.deeper (envOfC "laid_together" (zg s_laid_together) s.heap.objs.size f cdv))) :
   FSs (zfr CX0 P w K mg base ["wood", "one", "other"] "laid_together" (zg s_laid_together) f cdv A outer s H E).nox (xo s_laid_together) (zby self):=by
 have nd:=sc_laid_together.nd;have hr:=hr0.mono (z6a 48 (2*n));exact(zb (ql (zd4 (zd 1) jl) (zf (zm (zd 2))) zp) (zb (ql (zd4 (zd 2) jl) (zf (zm (zd 1))) zp) (zf (zm (zh ua6 hr.rmd (za (zd 0) (za (zd 1) (za (zh uau hr.rmd (za (zd 2) (za zii (za zj zc)))) (za (zh hself hr0 (za (zd 0) (za (zd 2) (za zj zc)))) zc)))))))))
theorem zbh(T:TX K mg)(ua6:Cal P w K mg base (7+40) "joined" (zae 40))(uau:Cal P w K mg base (2+40) "thing_at" (kv 40)){self:G}{n:Nat}(hself:Cal P w K mg base (48+2*n) "taken_out" self):Cal P w K mg base (48+2*n+1) "laid_together" (xl self):=T.udo.cal sc_laid_together (fun _ _ _ _ _ _=>ls3 fun _ _ _=>rfl) (fun f cdv A outer s H E hr=>zff T ua6 uau hself hr)
theorem sc_taken_out:FnScope ["wood", "make", "place", "row", "middle"] ["wood", "make", "place"] (zg s_taken_out):=.auto7
theorem zjt(T:TX K mg)(uaz:Cal P w K mg base 6 "balanced" xn)(ucq:Cal P w K mg base 3 "parts" kl)(udm:Cal P w K mg base 1 "size" jk){self aux:G}{n:Nat}(hself:Cal P w K mg base (48+2*n) "taken_out" self)(haux:Cal P w K mg base (48+2*n+1) "laid_together" aux)(hr0:Room (48+2*n+1) (A.deeper (envOfC "taken_out" (zg s_taken_out) s.heap.objs.size f cdv))) :
   FSs (zfr CX0 P w K mg base ["wood", "make", "place", "row", "middle"] "taken_out" (zg s_taken_out) f cdv A outer s H E).nox (xo s_taken_out) (zfk self aux):=by
 have nd:=sc_taken_out.nd;have hr1:=hr0.mono (z7c (48+2*n));have hr:=hr1.mono (z6a 48 (2*n));exact(zb (zo 3 (zh ucq hr.rmd (za (zd 0) (za (zd 1) zc))) nd) (zb (zo 4 (zh udm hr.rmd (za (zr (zd 3) (zx T.uab)) zc)) nd) (zb (ql (zcn (zd 2) (zd 4)) (zf (zm (zh uaz hr.rmd (za (zd 0) (za (zh hself hr1 (za (zd 0) (za (zr (zd 3) (zx T.uab)) (za (zd 2) zc)))) (za (zr (zd 3) (zx T.uag)) (za (zr (zd 3) (zx T.uac)) zc))))))) zp) (zb (ql (zha (zd 2) (zd 4)) (zf (zm (zh uaz hr.rmd (za (zd 0) (za (zr (zd 3) (zx T.uab)) (za (zr (zd 3) (zx T.uag)) (za (zh hself hr1 (za (zd 0) (za (zr (zd 3) (zx T.uac)) (za (zac (zac (zd 2) (zd 4)) zj) zc)))) zc))))))) zp) (zf (zm (zh haux hr0 (za (zd 0) (za (zr (zd 3) (zx T.uab)) (za (zr (zd 3) (zx T.uac)) zc))))))))))
theorem zdw(T:TX K mg)(uaz:Cal P w K mg base 6 "balanced" xn)(ucq:Cal P w K mg base 3 "parts" kl)(udm:Cal P w K mg base 1 "size" jk)(ua6:Cal P w K mg base (7+40) "joined" (zae 40))(uau:Cal P w K mg base (2+40) "thing_at" (kv 40)):∀n:Nat,Cal P w K mg base (48+2*n) "taken_out" (xj n)
 |0=>T.uc3.none0 (ps:=["wood", "make", "place"]) (fun _ _ _ _ _ _=>ls3 fun _ _ _=>rfl)
 | n+1=>by have ih:=zdw T uaz ucq udm ua6 uau n;exact(show Cal P w K mg base ((48+2*n+1)+1) "taken_out" (xj (n+1))from T.uc3.cal sc_taken_out (fun _ _ _ _ _ _=>ls3 fun _ _ _=>rfl) (fun f cdv A outer s H E hr=>zjt T uaz ucq udm ih (zbh T ua6 uau ih) hr))
theorem sc_out:FnScope ["wood", "make", "place"] ["wood", "make", "place"] (zg s_out):=.auto7
theorem sc_Shelf_out:FnScope ["self", "place", "thing"] ["self", "place"] (zg s_Shelf_out):=.auto7
theorem sc_given:FnScope ["wood", "make", "place", "thing", "row", "middle"] ["wood", "make", "place", "thing"] (zg s_given):=.auto7
theorem sc_swapped:FnScope ["wood", "make", "place", "thing"] ["wood", "make", "place", "thing"] (zg s_swapped):=.auto7
theorem sc_Shelf_swap:FnScope ["self", "place", "thing"] ["self", "place", "thing"] (zg s_Shelf_swap):=.auto7
theorem sc_check_stretch:FnScope ["make", "start", "end"] ["make", "start", "end"] (zg s_check_stretch):=.auto7
theorem sc_turned_part:FnScope ["wood", "make", "start", "end", "behind", "ahead", "begin"] ["wood", "make", "start", "end"] (zg s_turned_part):=.auto7
theorem sc_Shelf_turned:FnScope ["self", "start", "end"] ["self", "start", "end"] (zg s_Shelf_turned):=.auto7
theorem sc_laid:FnScope ["wood", "one", "other"] ["wood", "one", "other"] (zg s_laid):=.auto7
theorem sc_Shelf_laid:FnScope ["self", "other", "behind"] ["self", "other"] (zg s_Shelf_laid):=.auto7
theorem sc__law_laid:FnScope ["_law_wood", "_law_shelf", "_law_things", "_law_cell_here", "_law_fresh", "_law_more"] ["_law_wood", "_law_shelf", "_law_things", "_law_cell_here", "_law_fresh"] (zg s__law_laid):=.auto7
theorem sc_put_in:FnScope ["wood", "make", "place", "thing", "row", "middle"] ["wood", "make", "place", "thing"] (zg s_put_in):=.auto7
theorem sc_put:FnScope ["wood", "make", "place", "thing"] ["wood", "make", "place", "thing"] (zg s_put):=.auto7
theorem sc_Shelf_put:FnScope ["self", "place", "thing"] ["self", "place", "thing"] (zg s_Shelf_put):=.auto7
theorem sc__law_put_in:FnScope ["_law_shelf", "_law_things", "_law_cell_here", "_law_fresh", "_law_spot"] ["_law_shelf", "_law_things", "_law_cell_here", "_law_fresh"] (zg s__law_put_in):=.auto7
theorem sc__law_done:FnScope ["_law_wood", "_law_shelf", "_law_things", "_law_kept", "_law_cell_here", "_law_fresh", "_law_way", "_law_spot", "_law_start", "_law_end", "_law_make", "_law_some"] ["_law_wood", "_law_shelf", "_law_things", "_law_kept", "_law_cell_here", "_law_fresh"] (zg s__law_done):=.auto7
theorem sc_law:FnScope ["_law_script", "_law_things", "_law_wood", "_law_shelf", "_law_kept", "_law_walkers", "_law_k", "_law_cell_here", "_law_way", "_law_spot", "_law_deed", "_law_one"] ["_law_script"] (zg s_law):=.auto7
structure CX_law (P:Program) (w:World) (K:zFr) (mg:zMg) (base:Heap):Prop where
 mk ::
 uap:Mak P w K mg base 47 "Shelf" z9
 ua9:Mth P w K mg base 90 "Shelf" "cut" yu
 uai:Mth P w K mg base 1 "Shelf" "make" qg
 ua7:Mth P w K mg base 44 "Shelf" "things" yz
 uaw:Mak P w K mg base 1 "Wood" (zpx 1 jt)
 ubi:Cal P w K mg base 46 "_law_asked" qq
 ubh:Cal P w K mg base 4 "_law_begun" xx
 ubd:Cal P w K mg base 2 "_law_behind" ke
 ua8:Cal P w K mg base 1 "_law_cell" yq
 ubs:Cal P w K mg base 133 "_law_done" xw
theorem z2x(T:TX K mg)(C:CX_law P w K mg base)(hr:Room 133 (A.deeper (envOfC "law" (zg s_law) s.heap.objs.size f cdv))) :
   FSs (zfr CX0 P w K mg base ["_law_script", "_law_things", "_law_wood", "_law_shelf", "_law_kept", "_law_walkers", "_law_k", "_law_cell_here", "_law_way", "_law_spot", "_law_deed", "_law_one"] "law" (zg s_law) f cdv A outer s H E).nox (xo s_law) zz5:=by
 have nd:=sc_law.nd;exact(zb (by exact zzb 1 (zfh (x:="_law_k") (N':=[]) (fr:=[]) (by decide +kernel) rfl rfl rfl rfl rfl) (zw0 T.ud4 (x9 (zh C.ua8 hr.rmd (za (zd 0) (za zj zc))) zj)) (fun _ _ _ _=>.nil) (fun _ _ _ _=>(zr (zgc (za (zac (zd 0) zj) (za jn zc))) (zro T.uiz (za (zzk hr (zd 0) zj) zc)))) nd) (zb (zo 2 (zrm C.uaw hr.rmd) nd) (zb (zo 3 (zdn C.uap hr.rmd (za (zd 2) (za (zbd T.ubc (za (zd 1) zc)) zc))) nd) (zb (zo 4 (zdm (za (qd (za (qf C.uai hr.rmd (zd 3)) (za (zbd T.ubc (za (zd 1) zc)) zc))) zc)) nd) (zb (zo 5 (zdm zc) nd) (zb (zu9 6 nd T.ud4 zj (zb (zo 7 (zh C.ua8 hr.rmd (za (zd 0) (za (qt zj (zd 6)) zc))) nd) (zb (zo 8 (x9 (zd 7) zj) nd) (zb (zo 7 (zc2 (zd 7) zj) nd) (zf (ql (zg9 (zy8 (zg9 (ym (kt hr (zd 8) zj) (x8 (zcn (jx T.uah (za (zd 5) zc)) zj)))) (zsq (zrp hr (zd 5) (zgc zc))))) (zb (zc0 (zd 5) (qd (za (x9 (zd 7) zj) (za (zh C.ubh hr.rmd (za (zd 3) (za (x9 (zd 7) zj) zc))) (za (zbd T.ubc (za (zd 1) zc)) (za zj (za jl zc))))))) (zf (ql (zge (zc3 (zdo (zow T.o_AsItStands_Walker T.ubn (za (zr (zr (zd 5) (zov zj)) zj) (za (zvh T.ov_Walker) zc))) (zdo (zow T.o_AsItStood_Walker T.ubn (za (zr (zr (zd 5) (zov zj)) zj) (za (zvh T.ov_Walker) zc))) (zow T.o_Strict_Walker T.ubn (za (zr (zr (zd 5) (zov zj)) zj) (za (zvh T.ov_Walker) zc))))))) (zf (zm zii)) zp))) (zf (ql (zg9 (ym (kt hr (zd 8) zj) (x8 (kt hr (x9 (zd 7) zj) zj)))) (zb (zo 9 (x9 (zc2 (zd 7) zj) (qt (jx T.uah (za (zd 1) zc)) zj)) nd) (zb (zo 3 (qk C.ua9 hr.rmd (zd 3) (za (zd 9) zc)) nd) (zb (zo 1 (kh (zd 1) (yg (zd 9)) zaa) nd) (zb (zo 4 (zdm (za (qd (za (qf C.uai hr.rmd (zd 3)) (za (zbd T.ubc (za (zd 1) zc)) zc))) zc)) nd) (zf (zo 5 (zdm zc) nd)))))) (zf (ql (zg9 (ym (zcn (zd 8) zj) (x8 (zcn (jx T.uah (za (zd 1) zc)) zj)))) (zb (zig [1,10] (qw 1 nd (qw 10 nd Names.nil)) (zh C.ubs hr.rmd (za (zd 2) (za (zd 3) (za (zd 1) (za (zd 4) (za (zd 7) (za (qt zj (zfb zj (zd 6))) zc)))))))) (zb (zc0 (zd 4) (qd (za (qf C.uai hr.rmd (zd 3)) (za (zbd T.ubc (za (zd 1) zc)) zc)))) (zf (by exact z2m 5 (zfh (x:="_law_one") (N':=["_law_deed"]) (fr:=[10]) (by decide +kernel) rfl rfl rfl rfl rfl) (z1c (zd 5)) (fun _ _ _ _=>.nil) (fun _ _ _ _=>(zh C.ubd hr.rmd (za (zd 0) (za (zd 1) zc)))) nd)))) (zb (zo 9 (x9 (zd 7) (jx T.uah (za (zd 5) zc))) nd) (zb (zo 11 (zh C.ubi hr.rmd (za (zr (zd 5) (zd 9)) (za (zd 1) (za (z2q (zd 8) zj) zc)))) nd) (zb (ql (zd4 (zd 11) jl) (zf (zm zii)) zp) (zf (zu8 (zd 5) (zd 9) (zd 11))))))))))))))) PassesOwn.never) (zf (zm (zzk hr (qf C.ua7 hr.rmd (zd 3)) (zd 1))))))))))
theorem law_fn{P:Program}{w:World}{K:zFr}{mg:zMg}(T:TX K mg)(C:∀base,CX_law P w K mg base):∃fa fd,mg "law"=some (.ref fa)/\(∀(s:Shared) (v:Value),BindsTo s fd ⟨[v],[]⟩ [("_law_script",v)])/\∀base,FnOk P w K mg base CX0 134 fa fd ["_law_script"] (spG K mg g_law):=by obtain⟨f,fd,dV,F,hm,rfl⟩:=T.ui6.ex;have B:=F.binds0 (ps:=["_law_script"]) (fun _ _ _ _ _ _=>ls1 fun _=>rfl);refine⟨f,fd,hm,?_,fun base=>F.ok sc_law fun cdv A outer s H E hr=>z2x T (C base) hr⟩;obtain⟨oc,od,kV,doc,pm,an,cdv,ct,osl,rfl,lk,hcd⟩:=F.ex;exact fun s v=>.of_eq rfl
theorem law_all{P:Program}{w:World}{K:zFr}{mg:zMg}(T:TX K mg):∃fa fd,mg "law"=some (.ref fa)/\(∀(s:Shared) (v:Value),BindsTo s fd ⟨[v],[]⟩ [("_law_script",v)])/\∀base,FnOk P w K mg base CX0 134 fa fd ["_law_script"] (spG K mg g_law):=by
 refine law_fn T fun base=>?_;have ubr:Mth P w K mg base 1 "Wood" "numbered" xy:=T.udj.mth sc_Wood_numbered (fun _ _ _ _ _ _=>ls2 fun _ _=>rfl) (fun f cdv A outer s H E hr=>by as_aux_lemma=>
   have nd:=sc_Wood_numbered.nd;exact(zb (zo 2 (q8 T.uav (zd 0)) nd) (zb (xb T.uav (zd 0) (qt (zd 2) zj)) (zf (zm (qt (qd (za (zd 2) zc)) (zd 1)))))))
 have ua3:Cal P w K mg base 1 "check_room" ky:=(T.uf5.cal sc_check_room (fun _ _ _ _ _ _=>ls1 fun _=>rfl) (fun f cdv A outer s H E hr=>by as_aux_lemma=>
   have nd:=sc_check_room.nd;exact(zf (ql (zha (zd 0) (zx T.ueq)) (zf zas) zp))))
 have uak:Cal P w K mg base 1 "height" j7:=(T.uhx.cal sc_height (fun _ _ _ _ _ _=>ls1 fun _=>rfl) (fun f cdv A outer s H E hr=>by as_aux_lemma=>
   have nd:=sc_height.nd;exact(zb (ql (zd4 (zd 0) jl) (zf (zm zj)) zp) (zf (zm (zr (zd 0) (zx T.uhu)))))))
 have uen:Cal P w K mg base 2 "height_above" yx:=(T.ud5.cal sc_height_above (fun _ _ _ _ _ _=>ls2 fun _ _=>rfl) (fun f cdv A outer s H E hr=>by as_aux_lemma=>
   have nd:=sc_height_above.nd;exact(zf (zm (qt zj (zzj T.ui4 (za (zh uak hr.rmd (za (zd 0) zc)) (za (zh uak hr.rmd (za (zd 1) zc)) zc))))))))
 have ubl:Cal P w K mg base 2 "in_balance" kx:=(T.uf8.cal sc_in_balance (fun _ _ _ _ _ _=>ls2 fun _ _=>rfl) (fun f cdv A outer s H E hr=>by as_aux_lemma=>
   have nd:=sc_in_balance.nd;exact(zf (zm (z2p (zzl T.ui1 (za (zac (zh uak hr.rmd (za (zd 0) zc)) (zh uak hr.rmd (za (zd 1) zc))) zc)) zj)))))
 have uad:Cal P w K mg base 1 "size" jk:=(T.uis.cal sc_size (fun _ _ _ _ _ _=>ls1 fun _=>rfl) (fun f cdv A outer s H E hr=>by as_aux_lemma=>
   have nd:=sc_size.nd;exact(zb (ql (zd4 (zd 0) jl) (zf (zm zj)) zp) (zf (zm (zr (zd 0) (zx T.uiv)))))))
 have ufv:Cal P w K mg base 2 "size_above" zaq:=(T.uf9.cal sc_size_above (fun _ _ _ _ _ _=>ls2 fun _ _=>rfl) (fun f cdv A outer s H E hr=>by as_aux_lemma=>
   have nd:=sc_size_above.nd;exact(zf (zm (qt (qt (zh uad hr.rmd (za (zd 0) zc)) zj) (zh uad hr.rmd (za (zd 1) zc)))))))
 have uf4:Cal P w K mg base 1 "back" ze9:=(T.uin.cal sc_back (fun _ _ _ _ _ _=>ls1 fun _=>rfl) (fun f cdv A outer s H E hr=>by as_aux_lemma=>
   have nd:=sc_back.nd;exact(zb (ql (zd4 (zd 0) jl) (zf (zm jl)) zp) (zf (zm (zr (zd 0) (zx T.uim)))))))
 have hft:∀x g,ft x=some g->Cal P w K mg base 0 x g:=by intro x g e;unfold ft at e;cases e
 have uee:Cal P w K mg base 2 "backward_sum" zaw:=(T.ued.cal sc_backward_sum (fun _ _ _ _ _ _=>ls4 fun _ _ _ _=>rfl) (fun f cdv A outer s H E hr=>by as_aux_lemma=>
   have nd:=sc_backward_sum.nd;exact(zb (zo 4 (zd 2) nd) (zb (ql (zb7 (zd 3) jl) (zf (zo 4 (zeh hft hr.rmd (zd 0) (za (zh uf4 hr.rmd (za (zd 3) zc)) (za (zd 4) zc))) nd)) zp) (zb (ql (zb7 (zd 1) jl) (zf (zo 4 (zeh hft hr.rmd (zd 0) (za (zd 4) (za (zh uf4 hr.rmd (za (zd 1) zc)) zc))) nd)) zp) (zf (zm (zd 4))))))))
 have uem:Cal P w K mg base 1 "total" za7:=(T.uic.cal sc_total (fun _ _ _ _ _ _=>ls1 fun _=>rfl) (fun f cdv A outer s H E hr=>by as_aux_lemma=>
   have nd:=sc_total.nd;exact(zb (ql (zd4 (zd 0) jl) (zf (zm jl)) zp) (zf (zm (zr (zd 0) (zx T.uid)))))))
 have ugc:Cal P w K mg base 2 "onward_sum" zbr:=(T.uf1.cal sc_onward_sum (fun _ _ _ _ _ _=>ls4 fun _ _ _ _=>rfl) (fun f cdv A outer s H E hr=>by as_aux_lemma=>
   have nd:=sc_onward_sum.nd;exact(zb (zo 4 (zd 2) nd) (zb (ql (zb7 (zd 1) jl) (zf (zo 4 (zeh hft hr.rmd (zd 0) (za (zh uem hr.rmd (za (zd 1) zc)) (za (zd 4) zc))) nd)) zp) (zb (ql (zb7 (zd 3) jl) (zf (zo 4 (zeh hft hr.rmd (zd 0) (za (zd 4) (za (zh uem hr.rmd (za (zd 3) zc)) zc))) nd)) zp) (zf (zm (zd 4))))))))
 have uf6:Cal P w K mg base 3 "sums_above" y6:=(T.ugi.cal sc_sums_above (fun _ _ _ _ _ _=>ls4 fun _ _ _ _=>rfl) (fun f cdv A outer s H E hr=>by as_aux_lemma=>
   have nd:=sc_sums_above.nd;exact(zb (ql (zd4 (zd 0) jl) (zf (zm (qd (za jl (za jl zc))))) zp) (zf (zm (qd (za (zh ugc hr.rmd (za (zd 0) (za (zd 1) (za (zd 2) (za (zd 3) zc))))) (za (zh uee hr.rmd (za (zd 0) (za (zd 1) (za (zd 2) (za (zd 3) zc))))) zc))))))))
 have uaa:Mth P w K mg base 4 "Wood" "node" qa:=T.ugr.mth sc_Wood_node (fun _ _ _ _ _ _=>ls4 fun _ _ _ _=>rfl) (fun f cdv A outer s H E hr=>by as_aux_lemma=>
   have nd:=sc_Wood_node.nd;exact(zb (zo 4 (zh ufv hr.rmd (za (zd 1) (za (zd 3) zc))) nd) (zb (jg (zh ua3 hr.rmd (za (zd 4) zc))) (zb (ql (zge (zc3 (zh ubl hr.rmd (za (zd 1) (za (zd 3) zc))))) (zf zas) zp) (zb (zo 5 (qd (za (zd 4) (za (zh uen hr.rmd (za (zd 1) (za (zd 3) zc))) zc))) nd) (zb (zo 6 (zh uf6 hr.rmd (za (q8 T.ub8 (zd 0)) (za (zd 1) (za (zd 2) (za (zd 3) zc))))) nd) (zf (zm (qk ubr hr.rmd (zd 0) (za (qt (qt (qd (za zii (za (zd 1) (za (zd 2) (za (zd 3) zc))))) (zd 5)) (zd 6)) zc))))))))))
 have uef:∀n:Nat,Cal P w K mg base (5+n) "built" (zg8 n):=fun n=>by
   induction n with
   |zero=>exact T.ug2.none0 (ps:=["wood", "things", "start", "end"]) (fun _ _ _ _ _ _=>ls4 fun _ _ _ _=>rfl)
   | succ n hself=>exact T.ug2.cal sc_built (fun _ _ _ _ _ _=>ls4 fun _ _ _ _=>rfl) (fun f cdv A outer s H E hr0=>by as_aux_lemma=>
     have nd:=sc_built.nd;have hr:=hr0.mono (z6a 5 n);exact(zb (ql (kt hr (zd 2) (zd 3)) (zf (zm jl)) zp) (zb (zo 4 (zc2 (qt (zd 2) (zd 3)) zj) nd) (zb (zo 5 (zh hself hr0 (za (zd 0) (za (zd 1) (za (zd 2) (za (zd 4) zc))))) nd) (zb (zo 6 (zh hself hr0 (za (zd 0) (za (zd 1) (za (qt (zd 4) zj) (za (zd 3) zc))))) nd) (zf (zm (qk uaa hr.rmd (zd 0) (za (zd 5) (za (zr (zd 1) (zd 4)) (za (zd 6) zc)))))))))))
 have uef:=uef 40;have ueo:Cal P w K mg base 46 "make_of" za1:=(T.uhl.cal sc_make_of (fun _ _ _ _ _ _=>ls2 fun _ _=>rfl) (fun f cdv A outer s H E hr=>by as_aux_lemma=>
   have nd:=sc_make_of.nd;exact(zb (jg (zh ua3 hr.rmd (za (jx T.uah (za (zd 1) zc)) zc))) (zf (zm (zh uef hr.rmd (za (zd 0) (za (zd 1) (za zj (za (jx T.uah (za (zd 1) zc)) zc))))))))))
 have uap:=zdj (P:=P) (w:=w) (base:=base) T ueo;have uch:=zdk (P:=P) (w:=w) (base:=base) T ueo;have uan:Mth P w K mg base 1 "Shelf" "hold" jp:=T.uge.mth sc_Shelf_hold (fun _ _ _ _ _ _=>ls3 fun _ _ _=>rfl) (fun f cdv A outer s H E hr=>by as_aux_lemma=>
   have nd:=sc_Shelf_hold.nd;exact(zb (xb T.uaf (zd 0) (zd 1)) (zf (zc0 (q8 T.ubm (zd 0)) (zd 2)))))
 have uar:Cal P w K mg base 1 "check_place" xk:=(T.uet.cal sc_check_place (fun _ _ _ _ _ _=>ls2 fun _ _=>rfl) (fun f cdv A outer s H E hr=>by as_aux_lemma=>
   have nd:=sc_check_place.nd;exact(zf (ql (zge (zvl zj (zd 0) (zd 1))) (zf zas) zp))))
 have ube:Mth P w K mg base 2 "Wood" "turned" ji:=T.uew.mth sc_Wood_turned (fun _ _ _ _ _ _=>ls2 fun _ _=>rfl) (fun f cdv A outer s H E hr=>by as_aux_lemma=>
   have nd:=sc_Wood_turned.nd;exact(zb (ql (zd4 (zd 1) jl) (zf (zm jl)) zp) (zb (zo 2 (qd (za (zr (zd 1) (zx T.ucm)) (za (zr (zd 1) (zx T.ubw)) (za (zr (zd 1) (zx T.ub0)) zc)))) nd) (zf (zm (qk ubr hr.rmd (zd 0) (za (qt (qt (qd (za (zzi (zr (zd 1) (zx T.ud3))) zc)) (zd 2)) (qd (za (zh uad hr.rmd (za (zd 1) zc)) (za (zh uak hr.rmd (za (zd 1) zc)) (za (zh uf4 hr.rmd (za (zd 1) zc)) (za (zh uem hr.rmd (za (zd 1) zc)) zc)))))) zc)))))))
 have uas:Cal P w K mg base 3 "parts" kl:=(T.uih.cal sc_parts (fun _ _ _ _ _ _=>ls2 fun _ _=>rfl) (fun f cdv A outer s H E hr=>by as_aux_lemma=>
   have nd:=sc_parts.nd;exact(zb (ql (zge (zc3 (zr (zd 1) (zx T.ud3)))) (zf (zm (qd (za (zr (zd 1) (zx T.ucm)) (za (zr (zd 1) (zx T.ubw)) (za (zr (zd 1) (zx T.ub0)) zc)))))) zp) (zb (zo 2 (qk ube hr.rmd (zd 0) (za (zr (zd 1) (zx T.ub0)) zc)) nd) (zb (zo 3 (qk ube hr.rmd (zd 0) (za (zr (zd 1) (zx T.ucm)) zc)) nd) (zf (zm (qd (za (zd 2) (za (zr (zd 1) (zx T.ubw)) (za (zd 3) zc)))))))))))
 have uer:Cal P w K mg base 5 "lifted_left" za9:=(T.ues.cal sc_lifted_left (fun _ _ _ _ _ _=>ls4 fun _ _ _ _=>rfl) (fun f cdv A outer s H E hr=>by as_aux_lemma=>
   have nd:=sc_lifted_left.nd;exact(zb (zo 4 (zh uas hr.rmd (za (zd 0) (za (zd 1) zc))) nd) (zb (ql (zij (zh uak hr.rmd (za (zr (zd 4) (zx T.uab)) zc)) (zh uak hr.rmd (za (zr (zd 4) (zx T.uac)) zc))) (zf (zm (qk uaa hr.rmd (zd 0) (za (zr (zd 4) (zx T.uab)) (za (zr (zd 4) (zx T.uag)) (za (qk uaa hr.rmd (zd 0) (za (zr (zd 4) (zx T.uac)) (za (zd 2) (za (zd 3) zc)))) zc)))))) zp) (zb (zo 5 (zh uas hr.rmd (za (zd 0) (za (zr (zd 4) (zx T.uac)) zc))) nd) (zb (zo 6 (qk uaa hr.rmd (zd 0) (za (zr (zd 4) (zx T.uab)) (za (zr (zd 4) (zx T.uag)) (za (zr (zd 5) (zx T.uab)) zc)))) nd) (zb (zo 7 (qk uaa hr.rmd (zd 0) (za (zr (zd 5) (zx T.uac)) (za (zd 2) (za (zd 3) zc)))) nd) (zf (zm (qk uaa hr.rmd (zd 0) (za (zd 6) (za (zr (zd 5) (zx T.uag)) (za (zd 7) zc)))))))))))))
 have ud6:Cal P w K mg base 5 "lifted_right" zav:=(T.ueh.cal sc_lifted_right (fun _ _ _ _ _ _=>ls4 fun _ _ _ _=>rfl) (fun f cdv A outer s H E hr=>by as_aux_lemma=>
   have nd:=sc_lifted_right.nd;exact(zb (zo 4 (zh uas hr.rmd (za (zd 0) (za (zd 3) zc))) nd) (zb (ql (zij (zh uak hr.rmd (za (zr (zd 4) (zx T.uac)) zc)) (zh uak hr.rmd (za (zr (zd 4) (zx T.uab)) zc))) (zf (zm (qk uaa hr.rmd (zd 0) (za (qk uaa hr.rmd (zd 0) (za (zd 1) (za (zd 2) (za (zr (zd 4) (zx T.uab)) zc)))) (za (zr (zd 4) (zx T.uag)) (za (zr (zd 4) (zx T.uac)) zc)))))) zp) (zb (zo 5 (zh uas hr.rmd (za (zd 0) (za (zr (zd 4) (zx T.uab)) zc))) nd) (zb (zo 6 (qk uaa hr.rmd (zd 0) (za (zd 1) (za (zd 2) (za (zr (zd 5) (zx T.uab)) zc)))) nd) (zb (zo 7 (qk uaa hr.rmd (zd 0) (za (zr (zd 5) (zx T.uac)) (za (zr (zd 4) (zx T.uag)) (za (zr (zd 4) (zx T.uac)) zc)))) nd) (zf (zm (qk uaa hr.rmd (zd 0) (za (zd 6) (za (zr (zd 5) (zx T.uag)) (za (zd 7) zc)))))))))))))
 have ua2:Cal P w K mg base 6 "balanced" xn:=(T.ug5.cal sc_balanced (fun _ _ _ _ _ _=>ls4 fun _ _ _ _=>rfl) (fun f cdv A outer s H E hr=>by as_aux_lemma=>
   have nd:=sc_balanced.nd;exact(zb (ql (zc3 (zh ubl hr.rmd (za (zd 1) (za (zd 3) zc)))) (zf (zm (qk uaa hr.rmd (zd 0) (za (zd 1) (za (zd 2) (za (zd 3) zc)))))) zp) (zb (ql (zha (zh uak hr.rmd (za (zd 1) zc)) (zh uak hr.rmd (za (zd 3) zc))) (zf (zm (zh uer hr.rmd (za (zd 0) (za (zd 1) (za (zd 2) (za (zd 3) zc))))))) zp) (zf (zm (zh ud6 hr.rmd (za (zd 0) (za (zd 1) (za (zd 2) (za (zd 3) zc)))))))))))
 have ua5:∀n:Nat,Cal P w K mg base (7+n) "joined" (zae n):=fun n=>by
   induction n with
   |zero=>exact T.uf3.none0 (ps:=["wood", "left", "thing", "right"]) (fun _ _ _ _ _ _=>ls4 fun _ _ _ _=>rfl)
   | succ n hself=>exact T.uf3.cal sc_joined (fun _ _ _ _ _ _=>ls4 fun _ _ _ _=>rfl) (fun f cdv A outer s H E hr0=>by as_aux_lemma=>
     have nd:=sc_joined.nd;have hr:=hr0.mono (z6a 7 n);exact(zb (ql (zc3 (zh ubl hr.rmd (za (zd 1) (za (zd 3) zc)))) (zf (zm (qk uaa hr.rmd (zd 0) (za (zd 1) (za (zd 2) (za (zd 3) zc)))))) zp) (zb (ql (zha (zh uak hr.rmd (za (zd 1) zc)) (zh uak hr.rmd (za (zd 3) zc))) (zb (zo 4 (zh uas hr.rmd (za (zd 0) (za (zd 1) zc))) nd) (zf (zm (zh ua2 hr.rmd (za (zd 0) (za (zr (zd 4) (zx T.uab)) (za (zr (zd 4) (zx T.uag)) (za (zh hself hr0 (za (zd 0) (za (zr (zd 4) (zx T.uac)) (za (zd 2) (za (zd 3) zc))))) zc)))))))) zp) (zb (zo 4 (zh uas hr.rmd (za (zd 0) (za (zd 3) zc))) nd) (zf (zm (zh ua2 hr.rmd (za (zd 0) (za (zh hself hr0 (za (zd 0) (za (zd 1) (za (zd 2) (za (zr (zd 4) (zx T.uab)) zc))))) (za (zr (zd 4) (zx T.uag)) (za (zr (zd 4) (zx T.uac)) zc)))))))))))
 have ua5:=ua5 40;have uax:∀n:Nat,Cal P w K mg base (48+n) "cut_ahead" (yp n):=fun n=>by
   induction n with
   |zero=>exact T.uc4.none0 (ps:=["wood", "make", "place"]) (fun _ _ _ _ _ _=>ls3 fun _ _ _=>rfl)
   | succ n hself=>exact T.uc4.cal sc_cut_ahead (fun _ _ _ _ _ _=>ls3 fun _ _ _=>rfl) (fun f cdv A outer s H E hr0=>by as_aux_lemma=>
     have nd:=sc_cut_ahead.nd;have hr:=hr0.mono (z6a 48 n);exact(zb (ql (kt hr (zd 2) zj) (zf (zm (qd (za jl (za (zd 1) zc))))) zp) (zb (ql (kt hr (zd 2) (zh uad hr.rmd (za (zd 1) zc))) (zf (zm (qd (za (zd 1) (za jl zc))))) zp) (zb (zo 3 (zh uas hr.rmd (za (zd 0) (za (zd 1) zc))) nd) (zb (zo 4 (zh uad hr.rmd (za (zr (zd 3) (zx T.uab)) zc)) nd) (zb (ql (zzn (zd 2) (zd 4)) (zb (zo 5 (zh hself hr0 (za (zd 0) (za (zr (zd 3) (zx T.uab)) (za (zd 2) zc)))) nd) (zf (zm (qd (za (zr (zd 5) zj) (za (zh ua5 hr.rmd (za (zd 0) (za (zr (zd 5) zj) (za (zr (zd 3) (zx T.uag)) (za (zr (zd 3) (zx T.uac)) zc))))) zc)))))) zp) (zb (zo 5 (zh hself hr0 (za (zd 0) (za (zr (zd 3) (zx T.uac)) (za (zac (zac (zd 2) (zd 4)) zj) zc)))) nd) (zf (zm (qd (za (zh ua5 hr.rmd (za (zd 0) (za (zr (zd 3) (zx T.uab)) (za (zr (zd 3) (zx T.uag)) (za (zr (zd 5) zj) zc))))) (za (zr (zd 5) zj) zc))))))))))))
 have uax:=uax 40;have ui7:Cal P w K mg base 89 "cut" zu5:=(T.ui5.cal sc_cut (fun _ _ _ _ _ _=>ls3 fun _ _ _=>rfl) (fun f cdv A outer s H E hr=>by as_aux_lemma=>
   have nd:=sc_cut.nd;exact(zb (jg (zh uar hr.rmd (za (zd 2) (za (qt (zh uad hr.rmd (za (zd 1) zc)) zj) zc)))) (zf (zm (zh uax hr.rmd (za (zd 0) (za (zd 1) (za (zd 2) zc)))))))))
 have ug4:=ui7.alias T.al_cut_rows;have ua9:Mth P w K mg base 90 "Shelf" "cut" yu:=T.ugs.mth sc_Shelf_cut (fun _ _ _ _ _ _=>ls2 fun _ _=>rfl) (fun f cdv A outer s H E hr=>by as_aux_lemma=>
   have nd:=sc_Shelf_cut.nd;exact(zb (zo 2 (zh ug4 hr.rmd (za (q8 T.ual (zd 0)) (za (q8 T.uaf (zd 0)) (za (zd 1) zc)))) nd) (zb (zo 3 (zdn uch hr.rmd (za (q8 T.ual (zd 0)) zc)) nd) (zb (xb T.uaf (zd 3) (zr (zd 2) zj)) (zb (jg (qk uan hr.rmd (zd 0) (za (zr (zd 2) zj) (za (qd (za jn (za (zd 1) zc))) zc)))) (zf (zm (zd 3))))))))
 have uai:Mth P w K mg base 1 "Shelf" "make" qg:=T.ufu.mth sc_Shelf_make (fun _ _ _ _ _ _=>ls1 fun _=>rfl) (fun f cdv A outer s H E hr=>by as_aux_lemma=>
   have nd:=sc_Shelf_make.nd;exact(zf (zm (q8 T.uaf (zd 0)))))
 have uhq:Cal P w K mg base 1 "seen" zk1:=(T.uir.cal sc_seen (fun _ _ _ _ _ _=>ls2 fun _ _=>rfl) (fun f cdv A outer s H E hr=>by as_aux_lemma=>
   have nd:=sc_seen.nd;exact(zb (ql (kt hr (zr (zd 0) (zx T.ud3)) (zd 1)) (zf (zm (qd (za (zr (zd 0) (zx T.ucm)) (za (zr (zd 0) (zx T.ubw)) (za (zr (zd 0) (zx T.ub0)) (za zii zc))))))) zp) (zf (zm (qd (za (zr (zd 0) (zx T.ub0)) (za (zr (zd 0) (zx T.ubw)) (za (zr (zd 0) (zx T.ucm)) (za zii zc))))))))))
 have ude:∀n:Nat,Cal P w K mg base (2+n) "gather" (zeg n):=fun n=>by
   induction n with
   |zero=>exact T.uft.none0 (ps:=["make", "turned", "found"]) (fun _ _ _ _ _ _=>ls3 fun _ _ _=>rfl)
   | succ n hself=>exact T.uft.cal sc_gather (fun _ _ _ _ _ _=>ls3 fun _ _ _=>rfl) (fun f cdv A outer s H E hr0=>by as_aux_lemma=>
     have nd:=sc_gather.nd;have hr:=hr0.mono (z6a 2 n);exact(zb (ql (zd4 (zd 0) jl) (zf zu7) zp) (zb (zo 3 (zh uhq hr.rmd (za (zd 0) (za (zd 1) zc))) nd) (zb (jg (zh hself hr0 (za (zr (zd 3) (zx T.uab)) (za (zr (zd 3) (zx T.ub5)) (za (zd 2) zc))))) (zb (zc0 (zd 2) (zr (zd 3) (zx T.uag))) (zf (jg (zh hself hr0 (za (zr (zd 3) (zx T.uac)) (za (zr (zd 3) (zx T.ub5)) (za (zd 2) zc)))))))))))
 have ude:=ude 40;have ugy:Cal P w K mg base 43 "things_of" za8:=(T.ugn.cal sc_things_of (fun _ _ _ _ _ _=>ls1 fun _=>rfl) (fun f cdv A outer s H E hr=>by as_aux_lemma=>
   have nd:=sc_things_of.nd;exact(zb (zo 1 (zdm zc) nd) (zb (jg (zh ude hr.rmd (za (zd 0) (za zii (za (zd 1) zc))))) (zf (zm (zd 1))))))).frz
 have ua7:Mth P w K mg base 44 "Shelf" "things" yz:=T.ud1.mth sc_Shelf_things (fun _ _ _ _ _ _=>ls1 fun _=>rfl) (fun f cdv A outer s H E hr=>by as_aux_lemma=>
   have nd:=sc_Shelf_things.nd;exact(zf (zm (zh ugy hr.rmd (za (q8 T.uaf (zd 0)) zc)))))
 have uh4:=zd2 (P:=P) (w:=w) (base:=base) T ;have uaw:=zd3 (P:=P) (w:=w) (base:=base) T ;have ug7:Cal P w K mg base 1 "_law_due" ya:=(T.uhd.cal sc__law_due (fun _ _ _ _ _ _=>ls3 fun _ _ _=>rfl) (fun f cdv A outer s H E hr=>by as_aux_lemma=>
   have nd:=sc__law_due.nd;exact(zb (zig [3,4,5,6,7] (qw 3 nd (qw 4 nd (qw 5 nd (qw 6 nd (qw 7 nd Names.nil))))) (zd 0)) (zb (ql (zg9 (ym (kt hr (zd 3) zj) (x8 (zb7 (zd 7) jl)))) (zf (zm (qd (za jn (za (zd 7) zc))))) zp) (zb (ql (kt hr (zd 3) zj) (zf (zo 5 (zd 1) nd)) zp) (zb (ql (zge (zc3 (zd 2))) (zf (zm (qd (za (zrn (zd 6) (jx T.uah (za (zd 5) zc))) zc)))) zp) (zb (ql (kt hr (zd 6) (jx T.uah (za (zd 5) zc))) (zf (zm (qd (za jn (za jl zc))))) zp) (zf (zm (qd (za (zr (zd 5) (zd 6)) zc)))))))))))
 have uaq:Mth P w K mg base 1 "Shelf" "deeds" je:=T.ufc.mth sc_Shelf_deeds (fun _ _ _ _ _ _=>ls1 fun _=>rfl) (fun f cdv A outer s H E hr=>by as_aux_lemma=>
   have nd:=sc_Shelf_deeds.nd;exact(zf (zm (zbd T.ubc (za (q8 T.ubm (zd 0)) zc)))))
 have ubv:Mth P w K mg base 2 "AsItStands" "new_deeds" yk:=T.ubu.mth sc_AsItStands_new_deeds (fun _ _ _ _ _ _=>ls1 fun _=>rfl) (fun f cdv A outer s H E hr=>by as_aux_lemma=>
   have nd:=sc_AsItStands_new_deeds.nd;exact(zf (zm (kh (qf uaq hr.rmd (q8 T.uat (zd 0))) (yg (q8 T.uao (zd 0))) zaa))))
 have uif:Cal P w K mg base 1 "moved" zg6:=(T.uh8.cal sc_moved (fun _ _ _ _ _ _=>ls2 fun _ _=>rfl) (fun f cdv A outer s H E hr=>by as_aux_lemma=>
   have nd:=sc_moved.nd;exact(zb (zo 2 (zr (zd 1) zj) nd) (zb (ql (zg9 (ym (kt hr (zd 2) jn) (x8 (zcn (zr (zd 1) zj) (zd 0))))) (zf (zm (qt (zd 0) zj))) zp) (zb (ql (zg9 (ym (kt hr (zd 2) jn) (x8 (zcn (zr (zd 1) zj) (zd 0))))) (zf (zm (zac (zd 0) zj))) zp) (zb (ql (zg9 (ym (kt hr (zd 2) jn) (x8 (zvk (zr (zd 1) zj) (zd 0) (zr (zd 1) zj))))) (zf (zm (zr (zd 1) zj))) zp) (zb (ql (zg9 (ym (kt hr (zd 2) jn) (x8 (zcn (zr (zd 1) zj) (zd 0))))) (zf (zm (zr (zd 1) zj))) zp) (zb (ql (kt hr (zd 2) jn) (zf (zm (zr (zd 1) zj))) zp) (zf (zm (zd 0)))))))))))
 have uay:Mth P w K mg base 3 "AsItStands" "row" jw:=T.udh.mth sc_AsItStands_row (fun _ _ _ _ _ _=>ls1 fun _=>rfl) (fun f cdv A outer s H E hr=>by as_aux_lemma=>
   have nd:=sc_AsItStands_row.nd;exact(zb (zva 1 nd (qf ubv hr.rmd (zd 0)) (zb (xb T.uae (zd 0) (zh uif hr.rmd (za (q8 T.uae (zd 0)) (za (zd 1) zc)))) (zf (xb T.uao (zd 0) (qt (q8 T.uao (zd 0)) zj)))) PassesOwn.never) (zf (zm (qf uai hr.rmd (q8 T.uat (zd 0)))))))
 have ucw:Mth P w K mg base 4 "AsItStands" "more" kg:=T.ucz.mth sc_AsItStands_more (fun _ _ _ _ _ _=>ls1 fun _=>rfl) (fun f cdv A outer s H E hr=>by as_aux_lemma=>
   have nd:=sc_AsItStands_more.nd;exact(zb (zo 1 (qf uay hr.rmd (zd 0)) nd) (zf (zm (zrn (q8 T.uae (zd 0)) (zh uad hr.rmd (za (zd 1) zc)))))))
 have ua4:∀n:Nat,Cal P w K mg base (2+n) "thing_at" (kv n):=fun n=>by
   induction n with
   |zero=>exact T.udt.none0 (ps:=["make", "turned", "place"]) (fun _ _ _ _ _ _=>ls3 fun _ _ _=>rfl)
   | succ n hself=>exact T.udt.cal sc_thing_at (fun _ _ _ _ _ _=>ls3 fun _ _ _=>rfl) (fun f cdv A outer s H E hr0=>by as_aux_lemma=>
     have nd:=sc_thing_at.nd;have hr:=hr0.mono (z6a 2 n);exact(zb (zo 3 (zh uhq hr.rmd (za (zd 0) (za (zd 1) zc))) nd) (zb (zo 4 (zh uad hr.rmd (za (zr (zd 3) (zx T.uab)) zc)) nd) (zb (ql (zcn (zd 2) (zd 4)) (zf (zm (zh hself hr0 (za (zr (zd 3) (zx T.uab)) (za (zr (zd 3) (zx T.ub5)) (za (zd 2) zc)))))) zp) (zb (ql (zha (zd 2) (zd 4)) (zf (zm (zh hself hr0 (za (zr (zd 3) (zx T.uac)) (za (zr (zd 3) (zx T.ub5)) (za (zac (zac (zd 2) (zd 4)) zj) zc)))))) zp) (zf (zm (zr (zd 3) (zx T.uag)))))))))
 have ua4:=ua4 40;have ug8:Cal P w K mg base 43 "at" zwd:=(T.ui8.cal sc_at (fun _ _ _ _ _ _=>ls2 fun _ _=>rfl) (fun f cdv A outer s H E hr=>by as_aux_lemma=>
   have nd:=sc_at.nd;exact(zb (jg (zh uar hr.rmd (za (zd 1) (za (zh uad hr.rmd (za (zd 0) zc)) zc)))) (zf (zm (zh ua4 hr.rmd (za (zd 0) (za zii (za (zd 1) zc)))))))))
 have uc1:Mth P w K mg base 44 "AsItStands" "step" j8:=T.ubg.mth sc_AsItStands_step (fun _ _ _ _ _ _=>ls1 fun _=>rfl) (fun f cdv A outer s H E hr=>by as_aux_lemma=>
   have nd:=sc_AsItStands_step.nd;exact(zb (zo 1 (qf uay hr.rmd (zd 0)) nd) (zb (ql (zij (q8 T.uae (zd 0)) (zh uad hr.rmd (za (zd 1) zc))) (zf zas) zp) (zb (zo 2 (zh ug8 hr.rmd (za (zd 1) (za (q8 T.uae (zd 0)) zc))) nd) (zb (xb T.uae (zd 0) (qt (q8 T.uae (zd 0)) zj)) (zf (zm (zd 2))))))))
 have jq:RMth P w K mg base 44 "AsItStands" "step" jq:=T.ubg.rmth sc_AsItStands_step (fun _ _ _ _ _ _=>ls1 fun _=>rfl) (fun f cdv A outer s H E hr=>by as_aux_lemma=>
   have nd:=sc_AsItStands_step.nd;exact(zed (zo 1 (qf uay hr.rmd (zd 0)) nd) (zkl (zij (q8 T.uae (zd 0)) (zh uad hr.rmd (za (zd 1) zc))) (zb3 (zgv T.uc6 (za jn zc))) zec)))
 have ua0:Mth P w K mg base 1 "AsItStood" "row" x4:=T.udx.mth sc_AsItStood_row (fun _ _ _ _ _ _=>ls1 fun _=>rfl) (fun f cdv A outer s H E hr=>by as_aux_lemma=>
   have nd:=sc_AsItStood_row.nd;exact(zf (zm (q8 T.ubf (zd 0)))))
 have uda:Mth P w K mg base 2 "AsItStood" "more" ko:=T.udb.mth sc_AsItStood_more (fun _ _ _ _ _ _=>ls1 fun _=>rfl) (fun f cdv A outer s H E hr=>by as_aux_lemma=>
   have nd:=sc_AsItStood_more.nd;exact(zb (zo 1 (qf ua0 hr.rmd (zd 0)) nd) (zf (zm (zrn (q8 T.uaj (zd 0)) (zh uad hr.rmd (za (zd 1) zc)))))))
 have udg:Mth P w K mg base 44 "AsItStood" "step" xm:=T.ubk.mth sc_AsItStood_step (fun _ _ _ _ _ _=>ls1 fun _=>rfl) (fun f cdv A outer s H E hr=>by as_aux_lemma=>
   have nd:=sc_AsItStood_step.nd;exact(zb (zo 1 (qf ua0 hr.rmd (zd 0)) nd) (zb (ql (zij (q8 T.uaj (zd 0)) (zh uad hr.rmd (za (zd 1) zc))) (zf zas) zp) (zb (zo 2 (zh ug8 hr.rmd (za (zd 1) (za (q8 T.uaj (zd 0)) zc))) nd) (zb (xb T.uaj (zd 0) (qt (q8 T.uaj (zd 0)) zj)) (zf (zm (zd 2))))))))
 have jv:RMth P w K mg base 44 "AsItStood" "step" jv:=T.ubk.rmth sc_AsItStood_step (fun _ _ _ _ _ _=>ls1 fun _=>rfl) (fun f cdv A outer s H E hr=>by as_aux_lemma=>
   have nd:=sc_AsItStood_step.nd;exact(zed (zo 1 (qf ua0 hr.rmd (zd 0)) nd) (zkl (zij (q8 T.uaj (zd 0)) (zh uad hr.rmd (za (zd 1) zc))) (zb3 (zgv T.uc6 (za jn zc))) zec)))
 have uba:Mth P w K mg base 2 "Strict" "new_deeds" jd:=T.ucj.mth sc_Strict_new_deeds (fun _ _ _ _ _ _=>ls1 fun _=>rfl) (fun f cdv A outer s H E hr=>by as_aux_lemma=>
   have nd:=sc_Strict_new_deeds.nd;exact(zf (zm (kh (qf uaq hr.rmd (q8 T.ub2 (zd 0))) (yg (q8 T.ucn (zd 0))) zaa))))
 have ubo:Mth P w K mg base 3 "Strict" "row" xz:=T.uci.mth sc_Strict_row (fun _ _ _ _ _ _=>ls1 fun _=>rfl) (fun f cdv A outer s H E hr=>by as_aux_lemma=>
   have nd:=sc_Strict_row.nd;exact(zb (zo 1 (qf uba hr.rmd (zd 0)) nd) (zb (ql (zha (jx T.uah (za (zd 1) zc)) zj) (zf zas) zp) (zf (zm (q8 T.ubx (zd 0)))))))
 have j9:RMth P w K mg base 3 "Strict" "row" j9:=T.uci.rmth sc_Strict_row (fun _ _ _ _ _ _=>ls1 fun _=>rfl) (fun f cdv A outer s H E hr=>by as_aux_lemma=>
   have nd:=sc_Strict_row.nd;exact(zed (zo 1 (qf uba hr.rmd (zd 0)) nd) (zkl (zha (jx T.uah (za (zd 1) zc)) zj) (zb3 (znh (zl3 T) hr.rmd (za (zr (zd 1) zj) zc))) zec)))
 have ue4:Mth P w K mg base 4 "Strict" "more" ye:=T.ub6.mth sc_Strict_more (fun _ _ _ _ _ _=>ls1 fun _=>rfl) (fun f cdv A outer s H E hr=>by as_aux_lemma=>
   have nd:=sc_Strict_more.nd;exact(zb (zo 1 (qf ubo hr.rmd (zd 0)) nd) (zf (zm (zrn (q8 T.uam (zd 0)) (zh uad hr.rmd (za (zd 1) zc)))))))
 have ka:RMth P w K mg base 4 "Strict" "more" ka:=T.ub6.rmth sc_Strict_more (fun _ _ _ _ _ _=>ls1 fun _=>rfl) (fun f cdv A outer s H E hr=>by as_aux_lemma=>
   have nd:=sc_Strict_more.nd;exact(zb3 (zkm (zb4 j9 hr.rmd (zd 0)))))
 have ufh:Mth P w K mg base 44 "Strict" "step" kf:=T.ub7.mth sc_Strict_step (fun _ _ _ _ _ _=>ls1 fun _=>rfl) (fun f cdv A outer s H E hr=>by as_aux_lemma=>
   have nd:=sc_Strict_step.nd;exact(zb (zo 1 (qf ubo hr.rmd (zd 0)) nd) (zb (ql (zij (q8 T.uam (zd 0)) (zh uad hr.rmd (za (zd 1) zc))) (zf zas) zp) (zb (zo 2 (zh ug8 hr.rmd (za (zd 1) (za (q8 T.uam (zd 0)) zc))) nd) (zb (xb T.uam (zd 0) (qt (q8 T.uam (zd 0)) zj)) (zf (zm (zd 2))))))))
 have xf:RMth P w K mg base 44 "Strict" "step" xf:=T.ub7.rmth sc_Strict_step (fun _ _ _ _ _ _=>ls1 fun _=>rfl) (fun f cdv A outer s H E hr=>by as_aux_lemma=>
   have nd:=sc_Strict_step.nd;exact(zxf (zb3 (zkm (zb4 j9 hr.rmd (zd 0)))) (zed (zo 1 (qf ubo hr.rmd (zd 0)) nd) (zkl (zij (q8 T.uam (zd 0)) (zh uad hr.rmd (za (zd 1) zc))) (zb3 (zgv T.uc6 (za jn zc))) zec))))
 have ufp:Cal P w K mg base 45 "_law_heard" xu:=(T.ufx.cal sc__law_heard (fun _ _ _ _ _ _=>ls2 fun _ _=>rfl) (fun f cdv A outer s H E hr=>by as_aux_lemma=>
   have nd:=sc__law_heard.nd;exact(zb (zo 2 jl nd) (zb (zu6 (fun _=>(zf (ql (zc3 (zd 1)) (zf (zo 2 (qd (za (zdo (qf udg hr.rmd (zd 0)) (zdo (qf uc1 hr.rmd (zd 0)) (qf ufh hr.rmd (zd 0)))) zc)) nd)) (zf (zo 2 (qd (za (zdo (qf uda hr.rmd (zd 0)) (zdo (qf ucw hr.rmd (zd 0)) (qf ue4 hr.rmd (zd 0)))) zc)) nd))))) (fun _=>(zgu (z1h (zc3 (zd 1)) (zgu (zkm (znl (zsd (zb4 jv hr.rmd (zd 0)) (zsd (zb4 jq hr.rmd (zd 0)) (zb4 xf hr.rmd (zd 0))))))) (zgu (zkm (znl (zb4 ka hr.rmd (zd 0)))))))) (z2h 3 (fun _ _=>(zf (zo 2 (qd (za jn (za (zvi T.xf_Changed_deed (zd 3)) zc))) nd))) nd (zgi T.ct_Changed) (zgi T.no_Changed) (zuz (fun _ _=>(zf (zo 2 (qd (za jn (za jl zc))) nd))) (zgi T.ct_NoMore) (zgi T.no_NoMore) z2g)) (zsp (zgi T.ct_Changed) (zsp (zgi T.ct_NoMore) zy7))) (zf (zm (zd 2))))))).frz
 have ubi:Cal P w K mg base 46 "_law_asked" qq:=(T.uf0.cal sc__law_asked (fun _ _ _ _ _ _=>ls3 fun _ _ _=>rfl) (fun f cdv A outer s H E hr=>by as_aux_lemma=>
   have nd:=sc__law_asked.nd;exact(zb (zo 3 (zh ug7 hr.rmd (za (zd 0) (za (zd 1) (za (zd 2) zc)))) nd) (zb (ql (zvj hr (zh ufp hr.rmd (za (zr (zd 0) zj) (za (zd 2) zc))) (zd 3)) (zf (zm jl)) zp) (zb (zig [4,5,6,7,8] (qw 4 nd (qw 5 nd (qw 6 nd (qw 7 nd (qw 8 nd Names.nil))))) (zd 0)) (zb (ql (zg9 (ym (zc3 (zd 2)) (x8 (kt hr (jx T.uah (za (zd 3) zc)) zj)))) (zf (zo 7 (qt (zd 7) zj) nd)) zp) (zf (zm (qd (za (zd 4) (za (zd 5) (za (zd 6) (za (zd 7) (za (zd 8) zc))))))))))))))
 have ub1:Mak P w K mg base 2 "AsItStands" x6:=T.uby.mk0 sc_AsItStands___init__ (fun _ _ _ _ _ _=>ls2 fun _ _=>rfl) (fun f cdv A outer s H E hr=>by as_aux_lemma=>
   have nd:=sc_AsItStands___init__.nd;exact(zb (xb T.uat (zd 0) (zd 1)) (zb (xb T.uck (zd 0) (qf uai hr.rmd (zd 1))) (zb (xb T.uao (zd 0) (jx T.uah (za (qf uaq hr.rmd (zd 1)) zc))) (zf (xb T.uae (zd 0) zj))))))
 have ub3:Mak P w K mg base 2 "AsItStood" km:=T.ub4.mk0 sc_AsItStood___init__ (fun _ _ _ _ _ _=>ls2 fun _ _=>rfl) (fun f cdv A outer s H E hr=>by as_aux_lemma=>
   have nd:=sc_AsItStood___init__.nd;exact(zb (xb T.uct (zd 0) (zd 1)) (zb (xb T.ubf (zd 0) (qf uai hr.rmd (zd 1))) (zb (xb T.uds (zd 0) (jx T.uah (za (qf uaq hr.rmd (zd 1)) zc))) (zf (xb T.uaj (zd 0) zj))))))
 have uc0:Mak P w K mg base 2 "Strict" yr:=T.ucs.mk0 sc_Strict___init__ (fun _ _ _ _ _ _=>ls2 fun _ _=>rfl) (fun f cdv A outer s H E hr=>by as_aux_lemma=>
   have nd:=sc_Strict___init__.nd;exact(zb (xb T.ub2 (zd 0) (zd 1)) (zb (xb T.ubx (zd 0) (qf uai hr.rmd (zd 1))) (zb (xb T.ucn (zd 0) (jx T.uah (za (qf uaq hr.rmd (zd 1)) zc))) (zf (xb T.uam (zd 0) zj))))))
 have ubh:Cal P w K mg base 4 "_law_begun" xx:=(T.ufw.cal sc__law_begun (fun _ _ _ _ _ _=>ls2 fun _ _=>rfl) (fun f cdv A outer s H E hr=>by as_aux_lemma=>
   have nd:=sc__law_begun.nd;exact(zb (ql (kt hr (zd 1) zj) (zf (zm (zdn ub3 hr.rmd (za (zd 0) zc)))) zp) (zb (ql (kt hr (zd 1) zj) (zf (zm (zdn ub1 hr.rmd (za (zd 0) zc)))) zp) (zf (zm (zdn uc0 hr.rmd (za (zd 0) zc))))))))
 have ugx:Cal P w K mg base 1 "_law_mark" zbb:=(T.ugl.cal sc__law_mark (fun _ _ _ _ _ _=>ls2 fun _ _=>rfl) (fun f cdv A outer s H E hr=>by as_aux_lemma=>
   have nd:=sc__law_mark.nd;exact(zb (ql (zg9 (ym (kt hr (zr (zd 1) zj) jn) (x8 (zcn (zr (zd 1) zj) (zd 0))))) (zf (zm (qt (zd 0) zj))) zp) (zb (ql (zg9 (ym (kt hr (zr (zd 1) zj) jn) (x8 (zcn (zr (zd 1) zj) (zd 0))))) (zf (zm (zac (zd 0) zj))) zp) (zb (ql (zg9 (ym (kt hr (zr (zd 1) zj) jn) (ym (zcn (zr (zd 1) zj) (zd 0)) (x8 (zcn (zd 0) (zr (zd 1) zj)))))) (zf (zm (zr (zd 1) zj))) zp) (zb (ql (zg9 (zy8 (zg9 (ym (kt hr (zr (zd 1) zj) jn) (x8 (zcn (zr (zd 1) zj) (zd 0))))) (zsq (kt hr (zr (zd 1) zj) jn)))) (zf (zm (zr (zd 1) zj))) zp) (zf (zm (zd 0)))))))))
 have ubd:Cal P w K mg base 2 "_law_behind" ke:=(T.ufi.cal sc__law_behind (fun _ _ _ _ _ _=>ls2 fun _ _=>rfl) (fun f cdv A outer s H E hr=>by as_aux_lemma=>
   have nd:=sc__law_behind.nd;exact(zb (zig [2,3,4,5,6] (qw 2 nd (qw 3 nd (qw 4 nd (qw 5 nd (qw 6 nd Names.nil))))) (zd 0)) (zb (ql (kt hr (zd 2) zj) (zf (zo 5 (zh ugx hr.rmd (za (zd 5) (za (zd 1) zc))) nd)) zp) (zb (ql (zd4 (zd 6) jl) (zf (zo 6 (zd 1) nd)) zp) (zf (zm (qd (za (zd 2) (za (zd 3) (za (zd 4) (za (zd 5) (za (zd 6) zc)))))))))))))
 have ua8:Cal P w K mg base 1 "_law_cell" yq:=(T.ugv.cal sc__law_cell (fun _ _ _ _ _ _=>ls2 fun _ _=>rfl) (fun f cdv A outer s H E hr=>by as_aux_lemma=>
   have nd:=sc__law_cell.nd;exact(zb (zo 2 (qt (zfb (zfb (zd 1) (zd 1)) zj) zj) nd) (zb (ql (zha (jx T.uah (za (zd 0) zc)) zj) (zf (zo 2 (qt (x9 (zr (zd 0) (x9 (zd 1) (jx T.uah (za (zd 0) zc)))) (zzh zj zj)) (zfb (zc2 (zd 1) (jx T.uah (za (zd 0) zc))) zj)) nd)) zp) (zf (zm (x9 (zfb (x9 (qt (zfb (zd 2) zj) (zfb (zd 1) zj)) zj) (qt (x9 (zd 2) zj) zj)) zj)))))))
 have ufy:Mth P w K mg base 2 "Shelf" "back" zbt:=T.uf2.mth sc_Shelf_back (fun _ _ _ _ _ _=>ls2 fun _ _=>rfl) (fun f cdv A outer s H E hr=>by as_aux_lemma=>
   have nd:=sc_Shelf_back.nd;exact(zf (jg (qk uan hr.rmd (zd 0) (za (zd 1) (za (qd (za jn (za (zh uad hr.rmd (za (zd 1) zc)) zc))) zc))))))
 have uc5:=zdw (P:=P) (w:=w) (base:=base) T ua2 uas uad ua5 ua4 40;have ua1:=zbh (P:=P) (w:=w) (base:=base) T ua5 ua4 uc5;have ui2:Cal P w K mg base 129 "out" zu4:=(T.ui3.cal sc_out (fun _ _ _ _ _ _=>ls3 fun _ _ _=>rfl) (fun f cdv A outer s H E hr=>by as_aux_lemma=>
   have nd:=sc_out.nd;exact(zb (jg (zh uar hr.rmd (za (zd 2) (za (zh uad hr.rmd (za (zd 1) zc)) zc)))) (zf (zm (zh uc5 hr.rmd (za (zd 0) (za (zd 1) (za (zd 2) zc)))))))))
 have uhc:=ui2.alias T.al_out_rows;have ugj:Mth P w K mg base 130 "Shelf" "out" zcm:=T.ugu.mth sc_Shelf_out (fun _ _ _ _ _ _=>ls2 fun _ _=>rfl) (fun f cdv A outer s H E hr=>by as_aux_lemma=>
   have nd:=sc_Shelf_out.nd;exact(zb (zo 2 (zh ug8 hr.rmd (za (q8 T.uaf (zd 0)) (za (zd 1) zc))) nd) (zb (jg (qk uan hr.rmd (zd 0) (za (zh uhc hr.rmd (za (q8 T.ual (zd 0)) (za (q8 T.uaf (zd 0)) (za (zd 1) zc)))) (za (qd (za jn (za (zd 1) zc))) zc)))) (zf (zm (zd 2))))))
 have ueg:∀n:Nat,Cal P w K mg base (5+n) "given" (zg7 n):=fun n=>by
   induction n with
   |zero=>exact T.ug3.none0 (ps:=["wood", "make", "place", "thing"]) (fun _ _ _ _ _ _=>ls4 fun _ _ _ _=>rfl)
   | succ n hself=>exact T.ug3.cal sc_given (fun _ _ _ _ _ _=>ls4 fun _ _ _ _=>rfl) (fun f cdv A outer s H E hr0=>by as_aux_lemma=>
     have nd:=sc_given.nd;have hr:=hr0.mono (z6a 5 n);exact(zb (zo 4 (zh uas hr.rmd (za (zd 0) (za (zd 1) zc))) nd) (zb (zo 5 (zh uad hr.rmd (za (zr (zd 4) (zx T.uab)) zc)) nd) (zb (ql (zcn (zd 2) (zd 5)) (zf (zm (qk uaa hr.rmd (zd 0) (za (zh hself hr0 (za (zd 0) (za (zr (zd 4) (zx T.uab)) (za (zd 2) (za (zd 3) zc))))) (za (zr (zd 4) (zx T.uag)) (za (zr (zd 4) (zx T.uac)) zc)))))) zp) (zb (ql (zha (zd 2) (zd 5)) (zf (zm (qk uaa hr.rmd (zd 0) (za (zr (zd 4) (zx T.uab)) (za (zr (zd 4) (zx T.uag)) (za (zh hself hr0 (za (zd 0) (za (zr (zd 4) (zx T.uac)) (za (zac (zac (zd 2) (zd 5)) zj) (za (zd 3) zc))))) zc)))))) zp) (zf (zm (qk uaa hr.rmd (zd 0) (za (zr (zd 4) (zx T.uab)) (za (zd 3) (za (zr (zd 4) (zx T.uac)) zc)))))))))))
 have ueg:=ueg 40;have uhk:Cal P w K mg base 46 "swapped" ze8:=(T.uhm.cal sc_swapped (fun _ _ _ _ _ _=>ls4 fun _ _ _ _=>rfl) (fun f cdv A outer s H E hr=>by as_aux_lemma=>
   have nd:=sc_swapped.nd;exact(zb (jg (zh uar hr.rmd (za (zd 2) (za (zh uad hr.rmd (za (zd 1) zc)) zc)))) (zf (zm (zh ueg hr.rmd (za (zd 0) (za (zd 1) (za (zd 2) (za (zd 3) zc))))))))))
 have ufz:Mth P w K mg base 47 "Shelf" "swap" zbs:=T.ugh.mth sc_Shelf_swap (fun _ _ _ _ _ _=>ls3 fun _ _ _=>rfl) (fun f cdv A outer s H E hr=>by as_aux_lemma=>
   have nd:=sc_Shelf_swap.nd;exact(zf (jg (qk uan hr.rmd (zd 0) (za (zh uhk hr.rmd (za (q8 T.ual (zd 0)) (za (q8 T.uaf (zd 0)) (za (zd 1) (za (zd 2) zc))))) (za (qd (za jn (za (zd 1) zc))) zc))))))
 have udp:Cal P w K mg base 2 "check_stretch" zam:=(T.udn.cal sc_check_stretch (fun _ _ _ _ _ _=>ls3 fun _ _ _=>rfl) (fun f cdv A outer s H E hr=>by as_aux_lemma=>
   have nd:=sc_check_stretch.nd;exact(zf (ql (zge (zox zj (zd 1) (zd 2) (zh uad hr.rmd (za (zd 0) zc)))) (zf zas) zp))))
 have ufa:Cal P w K mg base 130 "turned_part" za6:=(T.uey.cal sc_turned_part (fun _ _ _ _ _ _=>ls4 fun _ _ _ _=>rfl) (fun f cdv A outer s H E hr=>by as_aux_lemma=>
   have nd:=sc_turned_part.nd;exact(zb (jg (zh udp hr.rmd (za (zd 1) (za (zd 2) (za (zd 3) zc))))) (zb (zo 4 (zh uax hr.rmd (za (zd 0) (za (zd 1) (za (zd 3) zc)))) nd) (zb (zo 5 (zh uax hr.rmd (za (zd 0) (za (zr (zd 4) zj) (za (zd 2) zc)))) nd) (zb (zo 6 (zh ua1 hr.rmd (za (zd 0) (za (zr (zd 5) zj) (za (qk ube hr.rmd (zd 0) (za (zr (zd 5) zj) zc)) zc)))) nd) (zf (zm (zh ua1 hr.rmd (za (zd 0) (za (zd 6) (za (zr (zd 4) zj) zc))))))))))))
 have ud0:Mth P w K mg base 131 "Shelf" "turned" zax:=T.uel.mth sc_Shelf_turned (fun _ _ _ _ _ _=>ls3 fun _ _ _=>rfl) (fun f cdv A outer s H E hr=>by as_aux_lemma=>
   have nd:=sc_Shelf_turned.nd;exact(zf (jg (qk uan hr.rmd (zd 0) (za (zh ufa hr.rmd (za (q8 T.ual (zd 0)) (za (q8 T.uaf (zd 0)) (za (zd 1) (za (zd 2) zc))))) (za (qd (za jn (za (zd 1) (za (zd 2) zc)))) zc))))))
 have uil:Cal P w K mg base 130 "laid" zos:=(T.uiu.cal sc_laid (fun _ _ _ _ _ _=>ls3 fun _ _ _=>rfl) (fun f cdv A outer s H E hr=>by as_aux_lemma=>
   have nd:=sc_laid.nd;exact(zb (jg (zh ua3 hr.rmd (za (qt (zh uad hr.rmd (za (zd 1) zc)) (zh uad hr.rmd (za (zd 2) zc))) zc))) (zf (zm (zh ua1 hr.rmd (za (zd 0) (za (zd 1) (za (zd 2) zc)))))))))
 have ug0:=uil.alias T.al_laid_rows;have ucp:Mth P w K mg base 131 "Shelf" "laid" zar:=T.ufo.mth sc_Shelf_laid (fun _ _ _ _ _ _=>ls2 fun _ _=>rfl) (fun f cdv A outer s H E hr=>by as_aux_lemma=>
   have nd:=sc_Shelf_laid.nd;exact(zb (zo 2 (qf uai hr.rmd (zd 1)) nd) (zf (jg (qk uan hr.rmd (zd 0) (za (zh ug0 hr.rmd (za (q8 T.ual (zd 0)) (za (q8 T.uaf (zd 0)) (za (zd 2) zc)))) (za (qd (za jn (za (zh uad hr.rmd (za (zd 2) zc)) zc))) zc)))))))
 have ugp:Cal P w K mg base 132 "_law_laid" zbc:=(T.ug1.cal sc__law_laid (fun _ _ _ _ _ _=>ls5 fun _ _ _ _ _=>rfl) (fun f cdv A outer s H E hr=>by as_aux_lemma=>
   have nd:=sc__law_laid.nd;exact(zb (by exact zzb 5 (zfh (x:="_law_k") (N':=["_law_fresh"]) (fr:=[4]) (by decide +kernel) rfl rfl rfl rfl rfl) (zw0 T.ud4 (x9 (zd 3) zj)) (fun _ _ _ _=>.nil) (fun _ _ _ _=>(qt (zd 1) (zd 0))) nd) (zb (ql (zg9 (ym (kt hr (x9 (zc2 (zd 3) zj) zj) zj) (x8 (zcn (jx T.uah (za (zd 2) zc)) zj)))) (zb (jg (qk ucp hr.rmd (zd 1) (za (zd 1) zc))) (zf (zm (qd (za (qt (zd 2) (zd 2)) (za (qd (za jn (za (jx T.uah (za (zd 2) zc)) zc))) zc)))))) zp) (zb (jg (qk ucp hr.rmd (zd 1) (za (zdn uap hr.rmd (za (zd 0) (za (zd 5) zc))) zc))) (zf (zm (qd (za (qt (zd 2) (zd 5)) (za (qd (za jn (za (jx T.uah (za (zd 5) zc)) zc))) zc))))))))))
 have udf:∀n:Nat,Cal P w K mg base (7+n) "put_in" (zef n):=fun n=>by
   induction n with
   |zero=>exact T.ugd.none0 (ps:=["wood", "make", "place", "thing"]) (fun _ _ _ _ _ _=>ls4 fun _ _ _ _=>rfl)
   | succ n hself=>exact T.ugd.cal sc_put_in (fun _ _ _ _ _ _=>ls4 fun _ _ _ _=>rfl) (fun f cdv A outer s H E hr0=>by as_aux_lemma=>
     have nd:=sc_put_in.nd;have hr:=hr0.mono (z6a 7 n);exact(zb (ql (zd4 (zd 1) jl) (zf (zm (qk uaa hr.rmd (zd 0) (za jl (za (zd 3) (za jl zc)))))) zp) (zb (zo 4 (zh uas hr.rmd (za (zd 0) (za (zd 1) zc))) nd) (zb (zo 5 (zh uad hr.rmd (za (zr (zd 4) (zx T.uab)) zc)) nd) (zb (ql (zzn (zd 2) (zd 5)) (zf (zm (zh ua2 hr.rmd (za (zd 0) (za (zh hself hr0 (za (zd 0) (za (zr (zd 4) (zx T.uab)) (za (zd 2) (za (zd 3) zc))))) (za (zr (zd 4) (zx T.uag)) (za (zr (zd 4) (zx T.uac)) zc))))))) zp) (zf (zm (zh ua2 hr.rmd (za (zd 0) (za (zr (zd 4) (zx T.uab)) (za (zr (zd 4) (zx T.uag)) (za (zh hself hr0 (za (zd 0) (za (zr (zd 4) (zx T.uac)) (za (zac (zac (zd 2) (zd 5)) zj) (za (zd 3) zc))))) zc))))))))))))
 have udf:=udf 40;have uiy:Cal P w K mg base 48 "put" zu3:=(T.ui0.cal sc_put (fun _ _ _ _ _ _=>ls4 fun _ _ _ _=>rfl) (fun f cdv A outer s H E hr=>by as_aux_lemma=>
   have nd:=sc_put.nd;exact(zb (jg (zh uar hr.rmd (za (zd 2) (za (qt (zh uad hr.rmd (za (zd 1) zc)) zj) zc)))) (zb (jg (zh ua3 hr.rmd (za (qt (zh uad hr.rmd (za (zd 1) zc)) zj) zc))) (zf (zm (zh udf hr.rmd (za (zd 0) (za (zd 1) (za (zd 2) (za (zd 3) zc)))))))))))
 have uhb:=uiy.alias T.al_put_rows;have ugq:Mth P w K mg base 49 "Shelf" "put" zcl:=T.ugm.mth sc_Shelf_put (fun _ _ _ _ _ _=>ls3 fun _ _ _=>rfl) (fun f cdv A outer s H E hr=>by as_aux_lemma=>
   have nd:=sc_Shelf_put.nd;exact(zf (jg (qk uan hr.rmd (zd 0) (za (zh uhb hr.rmd (za (q8 T.ual (zd 0)) (za (q8 T.uaf (zd 0)) (za (zd 1) (za (zd 2) zc))))) (za (qd (za jn (za (zd 1) zc))) zc))))))
 have uep:Cal P w K mg base 50 "_law_put_in" zba:=(T.ufe.cal sc__law_put_in (fun _ _ _ _ _ _=>ls4 fun _ _ _ _=>rfl) (fun f cdv A outer s H E hr=>by as_aux_lemma=>
   have nd:=sc__law_put_in.nd;exact(zb (zo 4 (x9 (zd 2) (qt (jx T.uah (za (zd 1) zc)) zj)) nd) (zb (jg (qk ugq hr.rmd (zd 0) (za (zd 4) (za (zd 3) zc)))) (zf (zm (qd (za (qt (qt (kh (zd 1) zaa (yg (zd 4))) (zgc (za (zd 3) zc))) (kh (zd 1) (yg (zd 4)) zaa)) (za (qd (za jn (za (zd 4) zc))) zc)))))))))
 have ubs:Cal P w K mg base 133 "_law_done" xw:=(T.ugz.cal sc__law_done (fun _ _ _ _ _ _=>ls6 fun _ _ _ _ _ _=>rfl) (fun f cdv A outer s H E hr=>by as_aux_lemma=>
   have nd:=sc__law_done.nd;exact(zb (zo 6 (x9 (zd 4) zj) nd) (zb (zo 4 (zc2 (zd 4) zj) nd) (zb (ql (zg9 (ym (kt hr (zd 6) zj) (x8 (zvj hr (zd 2) (zgc zc))))) (zb (zo 7 (x9 (zd 4) (jx T.uah (za (zd 2) zc))) nd) (zb (jg (qk ugj hr.rmd (zd 1) (za (zd 7) zc))) (zf (zm (qd (za (qt (kh (zd 2) zaa (yg (zd 7))) (kh (zd 2) (yg (qt (zd 7) zj)) zaa)) (za (qd (za jn (za (zd 7) zc))) zc))))))) zp) (zb (ql (zg9 (ym (kt hr (zd 6) zj) (x8 (zvj hr (zd 2) (zgc zc))))) (zb (zo 7 (x9 (zd 4) (jx T.uah (za (zd 2) zc))) nd) (zb (jg (qk ufz hr.rmd (zd 1) (za (zd 7) (za (zd 5) zc)))) (zf (zm (qd (za (qt (qt (kh (zd 2) zaa (yg (zd 7))) (zgc (za (zd 5) zc))) (kh (zd 2) (yg (qt (zd 7) zj)) zaa)) (za (qd (za jn (za (zd 7) zc))) zc))))))) zp) (zb (ql (z2r (zd 6) (qd (za zj (za zj zc)))) (zb (zo 8 (x9 (zd 4) (qt (jx T.uah (za (zd 2) zc)) zj)) nd) (zb (zo 9 (qt (zd 8) (x9 (zc2 (zd 4) zj) (zac (qt (jx T.uah (za (zd 2) zc)) zj) (zd 8)))) nd) (zb (jg (qk ud0 hr.rmd (zd 1) (za (zd 8) (za (zd 9) zc)))) (zf (zm (qd (za (qt (qt (kh (zd 2) zaa (yg (zd 8))) (zl5 T.ubc T.ug6 (kh (zd 2) (yg (zd 8)) (yg (zd 9))))) (kh (zd 2) (yg (zd 9)) zaa)) (za (qd (za jn (za (zd 8) (za (zd 9) zc)))) zc)))))))) zp) (zb (ql (kt hr (zd 6) zj) (zf (zm (zh ugp hr.rmd (za (zd 0) (za (zd 1) (za (zd 2) (za (zd 4) (za (zd 5) zc)))))))) zp) (zb (ql (kt hr (zd 6) zj) (zb (zo 7 (zac (jx T.uah (za (zd 2) zc)) (zc2 (x9 (zd 4) (qt (jx T.uah (za (zd 2) zc)) zj)) zj)) nd) (zb (jg (qk ua9 hr.rmd (zd 1) (za (zd 7) zc))) (zf (zm (qd (za (kh (zd 2) zaa (yg (zd 7))) (za (qd (za jn (za (zd 7) zc))) zc))))))) zp) (zb (ql (zg9 (ym (kt hr (zd 6) zj) (x8 (kt hr (x9 (zd 4) zj) zj)))) (zb (zig [10,11] (qw 10 nd (qw 11 nd Names.nil)) (zr (zd 3) (x9 (zc2 (zd 4) zj) (jx T.uah (za (zd 3) zc))))) (zb (jg (qk ufy hr.rmd (zd 1) (za (zd 10) zc))) (zf (zm (qd (za (zbd T.ubc (za (zd 11) zc)) (za (qd (za jn (za (jx T.uah (za (zd 11) zc)) zc))) zc))))))) zp) (zf (zm (zh uep hr.rmd (za (zd 1) (za (zd 2) (za (zd 4) (za (zd 5) zc))))))))))))))))).frz2
 exact⟨uap,ua9,uai,ua7,uaw,ubi,ubh,ubd,ua8,ubs⟩
end Pg
open PySem PySem.W L2 F PySem.Spec PyProof.Rows
namespace PySem.W.Fast
def tw10356133992639961057:=()
def tw10237704605407084252:=()
def tw6018864598122047585:=()
def tw3770737274132273223:=()
def tw8115731508777285635:=()
def tw16455821850239440336:=()
def tw2369859060067776770:=()
def tw8304719445996852321:=()
def tw15105970119595789084:=()
def tw5083734716366936124:=()
def tw3481000963184990982:=()
def tw15231744484513202258:=()
def tw1159862699029398979:=()
def tw6945297720238472790:=()
def tw4237571500954505200:=()
def tw11947403633600424773:=()
def tw15849409859125852120:=()
def tw16477026258970771187:=()
def tw2246886949613920957:=()
def tw16213417046202327181:=()
def tw4977990756006389387:=()
def tw4302203051221540851:=()
def tw11770820188958154537:=()
def tw17506175814131112916:=()
def tw4864560330887289463:=()
def tw6081318131839308454:=()
def tw9303607370945577656:=()
def tw18372638490337175964:=()
def tw9797046560529419961:=()
def tw11107133672442217188:=()
def tw10798105361518044182:=()
def tw15590231174060425201:=()
def tw2498671332695379509:=()
def tw12276208880523150894:=()
def tw4682778955730214195:=()
def tw9387787908800320453:=()
def tw16531983297501128854:=()
def tw2579429817202299729:=()
def tw8913862075319275993:=()
def tw74949712808773440:=()
def tw11629031384466424961:=()
def tw9266676727695303726:=()
def tw1510508556326011715:=()
def tw5151842857644245435:=()
def tw205637169772420844:=()
def tw17431640422465218645:=()
def tw7916642416878004201:=()
def tw4822090942860474397:=()
def tw11486489279876418702:=()
def tw13826576873826317507:=()
def tw9093543165893860047:=()
def tw12140738897518810435:=()
def tw2174673728378905272:=()
def tw15872153922788664699:=()
def tw4229923591739112623:=()
def tw5379267109061275598:=()
def tw9035987365913153501:=()
def tw1222922785967059794:=()
def tw6215352565817366199:=()
def tw14164732601709584012:=()
def tw16707596666890963973:=()
def tw2788242548825049617:=()
def tw14914062389983077809:=()
def tw8371688133177855412:=()
def tw10158370226662808874:=()
def tw4852282732917693980:=()
def tw4406580908322468064:=()
def tw12040802995995721593:=()
def tw301305971090517655:=()
def tw14945198972235565181:=()
def tw10698119201992841446:=()
def tw717408557756783772:=()
def tw6925938707277702633:=()
def tw3113126084535288881:=()
def tw7898969860709593773:=()
def tw8482588806603812981:=()
def tw5500836230174046392:=()
def tw3100586665498568793:=()
def tw185151856471919525:=()
def tw16955591730436550594:=()
def tw3306779168287143627:=()
def tw901080932628212113:=()
def tw84886779267514887:=()
def tw3853870935171476648:=()
def tw12451883965415874868:=()
def tw12106181711223108563:=()
def tw326704527702374207:=()
def tw13207545626087554955:=()
def tw18242213267407716132:=()
def tw9594601932462329402:=()
def tw4953607457089956864:=()
def tw9308929901940069560:=()
def tw5786426017144398766:=()
def tw5171875158199338078:=()
def tw10300803596507608635:=()
def tw11497823408416626831:=()
def tw3157290045872974320:=()
def tw1394276972882889428:=()
def tw3700656034253562188:=()
def tw8891684887802947535:=()
def tw12412496535413736620:=()
def tw15930769156105012705:=()
def tw5938070846204022860:=()
def tw4666084982633483520:=()
def tw5407469221911011863:=()
def tw17508528840133387330:=()
def tw435356881244538977:=()
def tw12347842013979554509:=()
def tw18231196443238533002:=()
def tw2571562438995023839:=()
def tw14224653118978122093:=()
def tw2527486301069811986:=()
def tw6667311613974914703:=()
def tw3953494742737771436:=()
def tw1231274857627731751:=()
def tw3166624469344519193:=()
def tw7439060590075952440:=()
def tw13238117659385805095:=()
def tw3203269963992599904:=()
def tw10404955304712071051:=()
def tw17289202956631730124:=()
def tw10966522160667343572:=()
def tw12778211885359168362:=()
def tw732392197190392985:=()
def tw16742223515116812087:=()
def tw5596672213601615492:=()
def tw6916277398550260305:=()
def tw11379621158939390465:=()
def tw8081150815279042974:=()
def tw759078297795846252:=()
def tw18176002419428162764:=()
def tw5831505994650916669:=()
def tw10503651894821317806:=()
def tw1573776606546557312:=()
def tw9970902016510113831:=()
def tw9560403542773352447:=()
def tw3566554185385418556:=()
def tw15967542592684487057:=()
def tw1512908029150606122:=()
def tw896766260183395770:=()
def tw16659161637833274456:=()
def tw9973998996966041221:=()
def tw1872065652835745913:=()
def tw11220204654263387565:=()
def tw16750150841654807613:=()
def tw2352359235844853336:=()
def tw7184075152130648466:=()
def tw16252732921553416696:=()
def tw834704729179938339:=()
def tw17180110428640941243:=()
def tw17931212739583386037:=()
def tw2571092931775464585:=()
def tw12018153263183039835:=()
def tw430667830326397891:=()
def tw2229644567958302197:=()
def tw12096184609318600276:=()
def tw9055861950708962038:=()
def tw1673156593606117533:=()
def tw16707571614596341037:=()
def tw3112048150235275973:=()
def tw12515564255180956:=()
def tw1588641760230905312:=()
def tw5431067399851867621:=()
def tw7725332680076693754:=()
def tw12699739487613121342:=()
def tw18231176684141909508:=()
def tw5196965610591119671:=()
def tw539158185849504328:=()
def tw14147812691840498481:=()
def tw16262558053503118122:=()
def tw15343236650978936344:=()
def tw6703264618122677825:=()
def tw14135757497372686039:=()
def tw5044860749502057057:=()
def tw11608441006157822678:=()
def tw10083858757717866064:=()
def tw7912970040868001305:=()
def tw2782636926959284814:=()
def tw12996052522500923923:=()
def tw17748738200314342234:=()
def tw16900107766545728229:=()
def tw18436030542577921799:=()
def tw14955528965314497741:=()
def tw15957084348534987679:=()
def tw18411206720526550609:=()
def tw1296462276155887224:=()
def tw2040715466045973848:=()
def tw13571000665584516524:=()
def tw5151305013939524661:=()
def tw6295873634795753088:=()
def tw1170558143025157940:=()
def tw7011457382659593906:=()
def tw2798544710964033747:=()
def tw9787008022776435924:=()
def tw9706952290506896106:=()
def tw8154270618268178808:=()
def tw418687543288046714:=()
def tw6264064422011820765:=()
def tw6947906804659484028:=()
def tw11456503969162617826:=()
def tw14709140755800752680:=()
def tw9689361969893593637:=()
def tw11707570043985042833:=()
def tw17926563293545523815:=()
def tw4669847699635572337:=()
def tw8330165713519690667:=()
def tw15671597977166925201:=()
def tw15043463039545967145:=()
def tw10801609161159924588:=()
def tw11412165008969744198:=()
def tw3190521237946432024:=()
def tw2718671279549277563:=()
def tw5277351659374738396:=()
def tw7712107556654589719:=()
def tw3545904897020847625:=()
def tw840623073632904514:=()
def tw9979336878264021178:=()
def tw12845203340753766500:=()
def tw7164579710658320404:=()
def tw17786673607922555078:=()
def tw1126983612971963761:=()
def tw1403520819636241392:=()
def tw8698020949980316559:=()
def tw6897201333543549660:=()
def tw4487690025145004025:=()
def tw11655274419979534250:=()
def tw11687842917891754192:=()
def tw12314910576750244266:=()
def tw4468484962299638540:=()
def tw4221813132524050503:=()
def tw17630936837879875827:=()
def tw10240712079029264675:=()
def tw15045377388983048205:=()
def tw3761322269680616620:=()
def tw8036263287651996781:=()
def tw14197104488607890669:=()
def tw8637001911479439299:=()
def tw11822333118526029341:=()
def tw13236078286332146232:=()
def tw11714300461804781235:=()
def tw10561632211247547635:=()
def tw8657826066622864475:=()
def tw4787841783851489808:=()
def tw14596984716947071607:=()
def tw12552220968563039124:=()
def tw3239276175547364228:=()
def tw13762065864067040063:=()
def tw318258252863724121:=()
def tw6421817845127701302:=()
def tw10838525416947621813:=()
def tw4708221733397609050:=()
def tw4969153297783030107:=()
def tw1165005695756489583:=()
def tw15781956353237277286:=()
def tw5356301528665262403:=()
def tw18138020349635257578:=()
def tw12959341469350621504:=()
def tw13227121629470402789:=()
def tw12431130434031987350:=()
def tw2765300842774677702:=()
def tw17967408209894850113:=()
def tw2990798919293615700:=()
def tw14223828778169448813:=()
def tw15976194286047818380:=()
def tw3692945103372647477:=()
def tw3647176803895913668:=()
def tw7169889008784181563:=()
def tw935284724709094631:=()
def tw16941020495395324839:=()
def tw6923882632152991618:=()
def tw4836193198513472467:=()
def tw11484160220103570522:=()
def tw3364658760766940875:=()
def tw3902895864195617855:=()
def tw14055060023757454800:=()
def tw6626427062089520186:=()
def tw12375038162439608381:=()
def tw14618322817545413598:=()
def tw8057865941635493160:=()
def tw10647631033818369153:=()
def tw14852521809097588529:=()
def tw17737617743298024408:=()
def tw13652274844988565697:=()
def tw2599480216744879213:=()
def tw16577947607133490507:=()
def tw12128723798957234828:=()
def tw12375225569957711931:=()
def tw3699803806047543902:=()
def tw18092038716334203326:=()
def tw10606244028142539836:=()
def tw2380749423503885097:=()
def tw5816341118371714167:=()
def tw10598167938973852269:=()
def tw6341721515859757078:=()
def tw15499537662399753291:=()
def tw1455657766800509821:=()
def tw2172616673299250655:=()
def tw8547135090337755694:=()
def tw8449469696046785069:=()
def tw12069400090523344375:=()
def tw646156402942287174:=()
def tw7922788232502658636:=()
def tw13545905199160051849:=()
def tw9173141681706663169:=()
def tw18168224793838391001:=()
def tw1635642409685878033:=()
def tw2531649750134944574:=()
def tw8981070265112131145:=()
def tw6433882772906547265:=()
def tw5201473838732290210:=()
def tw3683272003784639290:=()
def tw5255222274799157706:=()
def tw7288299317593445830:=()
def tw8186368737336939216:=()
def tw4915550331856842855:=()
def tw7128969564051599025:=()
def tw11996334380025519621:=()
def tw4396467270213617822:=()
def tw5185781901309709051:=()
def tw3112664306892810959:=()
def tw16612912294698428700:=()
def tw7346978201832440606:=()
def tw17710683606819387964:=()
def tw14946488466325945378:=()
def tw8288675867485197414:=()
def tw18329852052372795103:=()
def tw5628155574512210974:=()
def tw4842914454165061072:=()
def tw18425432625732235188:=()
def tw5387036092806541493:=()
def tw6237925292905200018:=()
def tw5012873952228407870:=()
def tw10123411897945900739:=()
def tw3826745962932713353:=()
def tw7626713475978053202:=()
def tw4541626664535963230:=()
def tw3262674703109685278:=()
def tw8402829950371751416:=()
def tw4327714126941962722:=()
def tw14177379190640626014:=()
def tw5513388231141561300:=()
def tw9425165708163746914:=()
def tw10751115596834030227:=()
def tw15236582432659742462:=()
def tw4121509106053179556:=()
def tw13926527890401475847:=()
def tw12476535269428930631:=()
def tw3282021633342582915:=()
def tw3603626957779505886:=()
def tw15085369525899826260:=()
def tw14986758949581799762:=()
def tw3162109233041400701:=()
def tw764211288814440252:=()
def tw12241000529584545556:=()
def tw2310756243507630824:=()
def tw4434968321261764829:=()
def tw12903234355276402169:=()
def tw8223990079553543848:=()
def tw12575128809604324370:=()
def tw12221020336034518516:=()
def tw15165023691649375971:=()
def tw5295323821031413441:=()
def tw10500504893955247655:=()
def tw8341924471941797850:=()
def tw14387122148724081923:=()
def tw7758223716639899677:=()
def tw16168672895554392524:=()
def tw4170062389753937658:=()
def tw8471228793898988001:=()
def tw7261379644327141699:=()
def tw4399474207410814028:=()
def tw4431307050089870321:=()
def tw13855287507313443613:=()
def tw1230915595961234048:=()
def tw3179175901146507546:=()
def tw8541971242575985557:=()
def tw796914891691633780:=()
def tw339112338694724974:=()
def tw5425339465915841961:=()
def tw451942194533565770:=()
def tw16143480782594199673:=()
def tw777915472923216700:=()
def tw1262752765975958917:=()
def tw15720975602127249293:=()
def tw6503855545307198041:=()
def tw4648879039390585298:=()
def tw1920881401921319136:=()
def tw10182697007590320936:=()
def tw9917777093906477104:=()
def tw1902114404113636800:=()
def tw13801148271088470450:=()
def tw5330691616133700093:=()
def tw13163830210558186999:=()
def tw10550607526842207165:=()
def tw6623950881960251353:=()
def tw762679289050742665:=()
def tw702237811159951890:=()
def tw9795035788097471573:=()
def tw15798939855356874533:=()
def tw11088448947685572996:=()
def tw3494937087373140562:=()
def tw15494247683423884879:=()
def tw14172058330247446169:=()
def tw14615223397723779822:=()
def tw998050895986957663:=()
def tw6628391360016850685:=()
def tw5670574006098527510:=()
def tw8190864807424446946:=()
def tw3013098501209701860:=()
def tw4540607577723648527:=()
def tw16895150326223190925:=()
def tw4760499920158936579:=()
def tw14567825177948876551:=()
def tw5169958967567280465:=()
end PySem.W.Fast
set_option maxRecDepth 100000 in
set_option maxHeartbeats 0 in
theorem PySem.Challenge.cw_ownshelf_k44_whole_walkers_together_holds : PySem.Challenge.rw_ownshelf_k44_whole_walkers_together.Holds := by
 w_on;o_law;k_head;(case hw=>w_witness2)
 k_fill
 refine F.law_walk (l:=PySem.Challenge.rw_ownshelf_k44_whole_walkers_together) (k:=134) (g:=Pg.g_law) (x:="_law_script") rfl rfl ⟨rfl,by decide,by decide,rfl⟩ (fun w h Y=>PySem.W.kIn_of Y) Pg.law_ok ?F
 case F=>
   intro w mg fa h KX G hmg;have uio:mg "abs"=none:=by refine' z6e KX G ?a_7;k_is
   have uit:mg "int"=none:=by refine' z6e KX G ?a_8;k_is
   have uez:mg "isinstance"=none:=by refine' z6e KX G ?a_9;k_is
   have uik:mg "len"=none:=by refine' z6e KX G ?a_10;k_is
   have uh6:mg "list"=none:=by refine' z6e KX G ?a_11;k_is
   have uij:mg "max"=none:=by refine' z6e KX G ?a_12;k_is
   have uh0:mg "range"=none:=by refine' z6e KX G ?a_13;k_is
   have ugt:mg "reversed"=none:=by refine' z6e KX G ?a_14;k_is
   have uhr:∃t,mg "ABOUT"=some (.int 1 t):=by refine' F.has_int KX G ?a_15;(case a_15=>k_is)
   have uh2:∃t,mg "AHEAD"=some (.int 0 t):=by refine' F.has_int KX G ?a_16;(case a_16=>k_is)
   have uh9:∃t,mg "BACK"=some (.int 8 t):=by refine' F.has_int KX G ?a_17;(case a_17=>k_is)
   have uhj:∃t,mg "BEHIND"=some (.int 2 t):=by refine' F.has_int KX G ?a_18;(case a_18=>k_is)
   have uhf:∃t,mg "HEIGHT"=some (.int 6 t):=by refine' F.has_int KX G ?a_19;(case a_19=>k_is)
   have uig:∃t,mg "LEFT"=some (.int 2 t):=by refine' F.has_int KX G ?a_20;(case a_20=>k_is)
   have uhe:∃t,mg "MIDDLE"=some (.int 1 t):=by refine' F.has_int KX G ?a_21;(case a_21=>k_is)
   have uec:∃t,mg "MOST_THINGS"=some (.int 2000 t):=by refine' F.has_int KX G ?a_22;(case a_22=>k_is)
   have uh3:∃t,mg "RIGHT"=some (.int 4 t):=by refine' F.has_int KX G ?a_23;(case a_23=>k_is)
   have uh7:∃t,mg "SIZE"=some (.int 5 t):=by refine' F.has_int KX G ?a_24;(case a_24=>k_is)
   have uht:∃t,mg "THING"=some (.int 3 t):=by refine' F.has_int KX G ?a_25;(case a_25=>k_is)
   have uh1:∃t,mg "TOTAL"=some (.int 7 t):=by refine' F.has_int KX G ?a_26;(case a_26=>k_is)
   have uhg:∃t,mg "TURNED"=some (.int 3 t):=by refine' F.has_int KX G ?a_27;(case a_27=>k_is)
   have hov_Walker:∃f,mg "Walker"=some (.ref f):=by refine' F.has_val KX G ?a_28;(case a_28=>k_is)
   have ho_AsItStands_Walker:F.IsOwn (L2.KOf KX) mg "AsItStands" "Walker" true:=by refine' F.has_own KX G ?a_29 ?b_29 ?h1_29 ?h2_29 ?h3_29 ?h4_29 ?h5_29 ?h6_29 ?q_29;(case a_29=>k_is);(case b_29=>k_is);(case h1_29=>k_is);(case h2_29=>k_is);(case h3_29=>k_is);(case h4_29=>k_is);(case h5_29=>k_is);(case h6_29=>k_is);(case q_29=>kit_is)
   have ho_AsItStood_Walker:F.IsOwn (L2.KOf KX) mg "AsItStood" "Walker" true:=by refine' F.has_own KX G ?a_30 ?b_30 ?h1_30 ?h2_30 ?h3_30 ?h4_30 ?h5_30 ?h6_30 ?q_30;(case a_30=>k_is);(case b_30=>k_is);(case h1_30=>k_is);(case h2_30=>k_is);(case h3_30=>k_is);(case h4_30=>k_is);(case h5_30=>k_is);(case h6_30=>k_is);(case q_30=>kit_is)
   have ho_Strict_Walker:F.IsOwn (L2.KOf KX) mg "Strict" "Walker" true:=by refine' F.has_own KX G ?a_31 ?b_31 ?h1_31 ?h2_31 ?h3_31 ?h4_31 ?h5_31 ?h6_31 ?q_31;(case a_31=>k_is);(case b_31=>k_is);(case h1_31=>k_is);(case h2_31=>k_is);(case h3_31=>k_is);(case h4_31=>k_is);(case h5_31=>k_is);(case h6_31=>k_is);(case q_31=>kit_is)
   have uhh:F.ExcCls (L2.KOf KX) mg "NoMore":=by refine' F.has_exc KX G ?a_32 ?q_32;(case a_32=>k_is);(case q_32=>k_exc)
   have hxi_Changed:F.HasXI (L2.KOf KX) mg "Changed" "ShelfError" "deed" "Changed.__init__" Pg.s_Changed___init__:=by refine' F.has_xi KX G ?aC_33 ?aS_33 ?a_33 ?i_33 ?l_33 ?c_33 ?k_33 ?sa_33 ?na_33 ?hd_33 ?x1_33 ?x2_33 ?r1_33 ?r2_33 ?r3_33;(case aC_33=>k_is);(case aS_33=>k_is);(case a_33=>k_is);(case i_33=>k_is);(case l_33=>k_is);(case c_33=>k_is);(case k_33=>k_is);(case sa_33=>k_is);(case na_33=>k_is);(case hd_33=>k_is);(case x1_33=>kernel_rfl);(case x2_33=>kernel_rfl);(case r1_33=>k_is);(case r2_33=>k_is);(case r3_33=>k_is)
   have he_Changed:F.ExcI (L2.KOf KX) mg "Changed":=by refine' F.has_ei KX G ?a_34 ?h1_34 ?h2_34 ?h3_34 ?h4_34 ?h5_34 ?h6_34 ?h7_34 ?h8_34 ?h9_34;(case a_34=>k_is);(case h1_34=>k_is);(case h2_34=>k_is);(case h3_34=>k_is);(case h4_34=>k_is);(case h5_34=>k_is);(case h6_34=>k_is);(case h7_34=>k_is);(case h8_34=>k_is);(case h9_34=>kit_is)
   have hxf_Changed_deed:F.XFld (L2.KOf KX) mg "Changed" "deed":=by refine' F.has_xf KX G ?a_35 he_Changed ?na_35 ?hd_35;(case a_35=>k_is);(case na_35=>k_is);(case hd_35=>k_is)
   have hct_Changed_Changed:F.CatB (L2.KOf KX) mg "Changed" "Changed" true:=by refine' F.has_ctb KX G ?a_36 ?b_36 ?h1_36 ?h2_36 ?h3_36 ?h4_36;(case a_36=>k_is);(case b_36=>k_is);(case h1_36=>k_is);(case h2_36=>k_is);(case h3_36=>k_is);(case h4_36=>k_is)
   have hct_Changed_NoMore:F.CatB (L2.KOf KX) mg "NoMore" "Changed" false:=by refine' F.has_ctb KX G ?a_37 ?b_37 ?h1_37 ?h2_37 ?h3_37 ?h4_37;(case a_37=>k_is);(case b_37=>k_is);(case h1_37=>k_is);(case h2_37=>k_is);(case h3_37=>k_is);(case h4_37=>k_is)
   have hct_Changed:∀c∈Pg.ct_Changed,F.CatB (L2.KOf KX) mg c "Changed" true:=(F.all_cons (hct_Changed_Changed) F.all_nil)
   have hno_Changed:∀c∈Pg.no_Changed,F.CatB (L2.KOf KX) mg c "Changed" false:=(F.all_cons (hct_Changed_NoMore) F.all_nil)
   have hct_NoMore_Changed:F.CatB (L2.KOf KX) mg "Changed" "NoMore" false:=by refine' F.has_ctb KX G ?a_40 ?b_40 ?h1_40 ?h2_40 ?h3_40 ?h4_40;(case a_40=>k_is);(case b_40=>k_is);(case h1_40=>k_is);(case h2_40=>k_is);(case h3_40=>k_is);(case h4_40=>k_is)
   have hct_NoMore_NoMore:F.CatB (L2.KOf KX) mg "NoMore" "NoMore" true:=by refine' F.has_ctb KX G ?a_41 ?b_41 ?h1_41 ?h2_41 ?h3_41 ?h4_41;(case a_41=>k_is);(case b_41=>k_is);(case h1_41=>k_is);(case h2_41=>k_is);(case h3_41=>k_is);(case h4_41=>k_is)
   have hct_NoMore:∀c∈Pg.ct_NoMore,F.CatB (L2.KOf KX) mg c "NoMore" true:=(F.all_cons (hct_NoMore_NoMore) F.all_nil)
   have hno_NoMore:∀c∈Pg.no_NoMore,F.CatB (L2.KOf KX) mg c "NoMore" false:=(F.all_cons (hct_NoMore_Changed) F.all_nil)
   have hal_cut_rows:mg "cut_rows"=mg "cut":=by refine' F.has_alias KX G ?a_44 ?b_44;(case a_44=>k_is);(case b_44=>k_is)
   have hal_laid_rows:mg "laid_rows"=mg "laid":=by refine' F.has_alias KX G ?a_45 ?b_45;(case a_45=>k_is);(case b_45=>k_is)
   have hal_out_rows:mg "out_rows"=mg "out":=by refine' F.has_alias KX G ?a_46 ?b_46;(case a_46=>k_is);(case b_46=>k_is)
   have hal_put_rows:mg "put_rows"=mg "put":=by refine' F.has_alias KX G ?a_47 ?b_47;(case a_47=>k_is);(case b_47=>k_is)
   have uce:F.Fld (L2.KOf KX) mg "AsItStands" "mark":=by refine' F.has_fld KX G ?aC_48 (F.has_cls KX G ?aC_48 ?pg_48 ?hd_48 ?po_48 ?sa_48) ?n_48;(case aC_48=>k_is);(case pg_48=>k_is);(case hd_48=>k_is);(case po_48=>k_is);(case sa_48=>k_is);(case n_48=>k_is)
   have ucy:F.Fld (L2.KOf KX) mg "AsItStands" "met":=by refine' F.has_fld KX G ?aC_49 (F.has_cls KX G ?aC_49 ?pg_49 ?hd_49 ?po_49 ?sa_49) ?n_49;(case aC_49=>k_is);(case pg_49=>k_is);(case hd_49=>k_is);(case po_49=>k_is);(case sa_49=>k_is);(case n_49=>k_is)
   have uca:F.Fld (L2.KOf KX) mg "AsItStands" "shelf":=by refine' F.has_fld KX G ?aC_50 (F.has_cls KX G ?aC_50 ?pg_50 ?hd_50 ?po_50 ?sa_50) ?n_50;(case aC_50=>k_is);(case pg_50=>k_is);(case hd_50=>k_is);(case po_50=>k_is);(case sa_50=>k_is);(case n_50=>k_is)
   have ub9:F.Fld (L2.KOf KX) mg "AsItStands" "stood":=by refine' F.has_fld KX G ?aC_51 (F.has_cls KX G ?aC_51 ?pg_51 ?hd_51 ?po_51 ?sa_51) ?n_51;(case aC_51=>k_is);(case pg_51=>k_is);(case hd_51=>k_is);(case po_51=>k_is);(case sa_51=>k_is);(case n_51=>k_is)
   have ucr:F.Fld (L2.KOf KX) mg "AsItStood" "mark":=by refine' F.has_fld KX G ?aC_52 (F.has_cls KX G ?aC_52 ?pg_52 ?hd_52 ?po_52 ?sa_52) ?n_52;(case aC_52=>k_is);(case pg_52=>k_is);(case hd_52=>k_is);(case po_52=>k_is);(case sa_52=>k_is);(case n_52=>k_is)
   have uc9:F.Fld (L2.KOf KX) mg "AsItStood" "met":=by refine' F.has_fld KX G ?aC_53 (F.has_cls KX G ?aC_53 ?pg_53 ?hd_53 ?po_53 ?sa_53) ?n_53;(case aC_53=>k_is);(case pg_53=>k_is);(case hd_53=>k_is);(case po_53=>k_is);(case sa_53=>k_is);(case n_53=>k_is)
   have ucg:F.Fld (L2.KOf KX) mg "AsItStood" "shelf":=by refine' F.has_fld KX G ?aC_54 (F.has_cls KX G ?aC_54 ?pg_54 ?hd_54 ?po_54 ?sa_54) ?n_54;(case aC_54=>k_is);(case pg_54=>k_is);(case hd_54=>k_is);(case po_54=>k_is);(case sa_54=>k_is);(case n_54=>k_is)
   have ucf:F.Fld (L2.KOf KX) mg "AsItStood" "stood":=by refine' F.has_fld KX G ?aC_55 (F.has_cls KX G ?aC_55 ?pg_55 ?hd_55 ?po_55 ?sa_55) ?n_55;(case aC_55=>k_is);(case pg_55=>k_is);(case hd_55=>k_is);(case po_55=>k_is);(case sa_55=>k_is);(case n_55=>k_is)
   have ue7:F.Fld (L2.KOf KX) mg "Shelf" "done":=by refine' F.has_fld KX G ?aC_56 (F.has_cls KX G ?aC_56 ?pg_56 ?hd_56 ?po_56 ?sa_56) ?n_56;(case aC_56=>k_is);(case pg_56=>k_is);(case hd_56=>k_is);(case po_56=>k_is);(case sa_56=>k_is);(case n_56=>k_is)
   have uev:F.Fld (L2.KOf KX) mg "Shelf" "held":=by refine' F.has_fld KX G ?aC_57 (F.has_cls KX G ?aC_57 ?pg_57 ?hd_57 ?po_57 ?sa_57) ?n_57;(case aC_57=>k_is);(case pg_57=>k_is);(case hd_57=>k_is);(case po_57=>k_is);(case sa_57=>k_is);(case n_57=>k_is)
   have ue9:F.Fld (L2.KOf KX) mg "Shelf" "wood":=by refine' F.has_fld KX G ?aC_58 (F.has_cls KX G ?aC_58 ?pg_58 ?hd_58 ?po_58 ?sa_58) ?n_58;(case aC_58=>k_is);(case pg_58=>k_is);(case hd_58=>k_is);(case po_58=>k_is);(case sa_58=>k_is);(case n_58=>k_is)
   have uea:F.Fld (L2.KOf KX) mg "Strict" "mark":=by refine' F.has_fld KX G ?aC_59 (F.has_cls KX G ?aC_59 ?pg_59 ?hd_59 ?po_59 ?sa_59) ?n_59;(case aC_59=>k_is);(case pg_59=>k_is);(case hd_59=>k_is);(case po_59=>k_is);(case sa_59=>k_is);(case n_59=>k_is)
   have ufk:F.Fld (L2.KOf KX) mg "Strict" "met":=by refine' F.has_fld KX G ?aC_60 (F.has_cls KX G ?aC_60 ?pg_60 ?hd_60 ?po_60 ?sa_60) ?n_60;(case aC_60=>k_is);(case pg_60=>k_is);(case hd_60=>k_is);(case po_60=>k_is);(case sa_60=>k_is);(case n_60=>k_is)
   have udl:F.Fld (L2.KOf KX) mg "Strict" "shelf":=by refine' F.has_fld KX G ?aC_61 (F.has_cls KX G ?aC_61 ?pg_61 ?hd_61 ?po_61 ?sa_61) ?n_61;(case aC_61=>k_is);(case pg_61=>k_is);(case hd_61=>k_is);(case po_61=>k_is);(case sa_61=>k_is);(case n_61=>k_is)
   have udv:F.Fld (L2.KOf KX) mg "Strict" "stood":=by refine' F.has_fld KX G ?aC_62 (F.has_cls KX G ?aC_62 ?pg_62 ?hd_62 ?po_62 ?sa_62) ?n_62;(case aC_62=>k_is);(case pg_62=>k_is);(case hd_62=>k_is);(case po_62=>k_is);(case sa_62=>k_is);(case n_62=>k_is)
   have ud2:F.Fld (L2.KOf KX) mg "Wood" "adding":=by refine' F.has_fld KX G ?aC_63 (F.has_cls KX G ?aC_63 ?pg_63 ?hd_63 ?po_63 ?sa_63) ?n_63;(case aC_63=>k_is);(case pg_63=>k_is);(case hd_63=>k_is);(case po_63=>k_is);(case sa_63=>k_is);(case n_63=>k_is)
   have uco:F.Fld (L2.KOf KX) mg "Wood" "nodes_made":=by refine' F.has_fld KX G ?aC_64 (F.has_cls KX G ?aC_64 ?pg_64 ?hd_64 ?po_64 ?sa_64) ?n_64;(case aC_64=>k_is);(case pg_64=>k_is);(case hd_64=>k_is);(case po_64=>k_is);(case sa_64=>k_is);(case n_64=>k_is)
   have uc8:F.HasMth (L2.KOf KX) mg "Wood" "numbered" "Wood.numbered" Pg.s_Wood_numbered:=by refine' F.has_mth KX G ?aC_65 (F.has_cls KX G ?aC_65 ?pg_65 ?hd_65 ?po_65 ?sa_65) ?a_65 ?i_65 ?l_65 ?c_65 ?k_65;(case aC_65=>k_is);(case pg_65=>k_is);(case hd_65=>k_is);(case po_65=>k_is);(case sa_65=>k_is);(case a_65=>k_is);(case i_65=>k_is);(case l_65=>k_is);(case c_65=>k_is);(case k_65=>k_is)
   have ueu:F.HasDef (L2.KOf KX) mg "check_room" Pg.s_check_room 0:=by refine' F.has_def KX G ?a_66 ?l_66 ?c_66 ?k_66;(case a_66=>k_is);(case l_66=>k_is);(case c_66=>k_is);(case k_66=>k_is)
   have uhi:F.HasDef (L2.KOf KX) mg "height" Pg.s_height 0:=by refine' F.has_def KX G ?a_67 ?l_67 ?c_67 ?k_67;(case a_67=>k_is);(case l_67=>k_is);(case c_67=>k_is);(case k_67=>k_is)
   have udu:F.HasDef (L2.KOf KX) mg "height_above" Pg.s_height_above 0:=by refine' F.has_def KX G ?a_68 ?l_68 ?c_68 ?k_68;(case a_68=>k_is);(case l_68=>k_is);(case c_68=>k_is);(case k_68=>k_is)
   have ue2:F.HasDef (L2.KOf KX) mg "in_balance" Pg.s_in_balance 0:=by refine' F.has_def KX G ?a_69 ?l_69 ?c_69 ?k_69;(case a_69=>k_is);(case l_69=>k_is);(case c_69=>k_is);(case k_69=>k_is)
   have uia:F.HasDef (L2.KOf KX) mg "size" Pg.s_size 0:=by refine' F.has_def KX G ?a_70 ?l_70 ?c_70 ?k_70;(case a_70=>k_is);(case l_70=>k_is);(case c_70=>k_is);(case k_70=>k_is)
   have uff:F.HasDef (L2.KOf KX) mg "size_above" Pg.s_size_above 0:=by refine' F.has_def KX G ?a_71 ?l_71 ?c_71 ?k_71;(case a_71=>k_is);(case l_71=>k_is);(case c_71=>k_is);(case k_71=>k_is)
   have uh5:F.HasDef (L2.KOf KX) mg "back" Pg.s_back 0:=by refine' F.has_def KX G ?a_72 ?l_72 ?c_72 ?k_72;(case a_72=>k_is);(case l_72=>k_is);(case c_72=>k_is);(case k_72=>k_is)
   have udq:F.HasDef (L2.KOf KX) mg "backward_sum" Pg.s_backward_sum 0:=by refine' F.has_def KX G ?a_73 ?l_73 ?c_73 ?k_73;(case a_73=>k_is);(case l_73=>k_is);(case c_73=>k_is);(case k_73=>k_is)
   have uhy:F.HasDef (L2.KOf KX) mg "total" Pg.s_total 0:=by refine' F.has_def KX G ?a_74 ?l_74 ?c_74 ?k_74;(case a_74=>k_is);(case l_74=>k_is);(case c_74=>k_is);(case k_74=>k_is)
   have ufb:F.HasDef (L2.KOf KX) mg "onward_sum" Pg.s_onward_sum 0:=by refine' F.has_def KX G ?a_75 ?l_75 ?c_75 ?k_75;(case a_75=>k_is);(case l_75=>k_is);(case c_75=>k_is);(case k_75=>k_is)
   have ue0:F.HasDef (L2.KOf KX) mg "sums_above" Pg.s_sums_above 0:=by refine' F.has_def KX G ?a_76 ?l_76 ?c_76 ?k_76;(case a_76=>k_is);(case l_76=>k_is);(case c_76=>k_is);(case k_76=>k_is)
   have uga:F.HasMth (L2.KOf KX) mg "Wood" "node" "Wood.node" Pg.s_Wood_node:=by refine' F.has_mth KX G ?aC_77 (F.has_cls KX G ?aC_77 ?pg_77 ?hd_77 ?po_77 ?sa_77) ?a_77 ?i_77 ?l_77 ?c_77 ?k_77;(case aC_77=>k_is);(case pg_77=>k_is);(case hd_77=>k_is);(case po_77=>k_is);(case sa_77=>k_is);(case a_77=>k_is);(case i_77=>k_is);(case l_77=>k_is);(case c_77=>k_is);(case k_77=>k_is)
   have uhs:F.HasDef (L2.KOf KX) mg "built" Pg.s_built 0:=by refine' F.has_def KX G ?a_78 ?l_78 ?c_78 ?k_78;(case a_78=>k_is);(case l_78=>k_is);(case c_78=>k_is);(case k_78=>k_is)
   have ug9:F.HasDef (L2.KOf KX) mg "make_of" Pg.s_make_of 0:=by refine' F.has_def KX G ?a_79 ?l_79 ?c_79 ?k_79;(case a_79=>k_is);(case l_79=>k_is);(case c_79=>k_is);(case k_79=>k_is)
   have ucv:F.HasMk (L2.KOf KX) mg "Shelf" "Shelf.__init__" Pg.s_Shelf___init__ 1:=by refine' F.has_mk1 KX G ?aC_80 ?mk_80 ?kc_80 ?a_80 ?i_80 ?l_80 ?c_80 ?k_80 ?t_80;(case aC_80=>k_is);(case mk_80=>k_is);(case kc_80=>k_is);(case a_80=>k_is);(case i_80=>k_is);(case l_80=>k_is);(case c_80=>k_is);(case k_80=>k_is);(case t_80=>k_is)
   have ue1:F.HasMth (L2.KOf KX) mg "Shelf" "hold" "Shelf.hold" Pg.s_Shelf_hold:=by refine' F.has_mth KX G ?aC_81 (F.has_cls KX G ?aC_81 ?pg_81 ?hd_81 ?po_81 ?sa_81) ?a_81 ?i_81 ?l_81 ?c_81 ?k_81;(case aC_81=>k_is);(case pg_81=>k_is);(case hd_81=>k_is);(case po_81=>k_is);(case sa_81=>k_is);(case a_81=>k_is);(case i_81=>k_is);(case l_81=>k_is);(case c_81=>k_is);(case k_81=>k_is)
   have ud9:F.HasDef (L2.KOf KX) mg "check_place" Pg.s_check_place 0:=by refine' F.has_def KX G ?a_82 ?l_82 ?c_82 ?k_82;(case a_82=>k_is);(case l_82=>k_is);(case c_82=>k_is);(case k_82=>k_is)
   have ud7:F.HasMth (L2.KOf KX) mg "Wood" "turned" "Wood.turned" Pg.s_Wood_turned:=by refine' F.has_mth KX G ?aC_83 (F.has_cls KX G ?aC_83 ?pg_83 ?hd_83 ?po_83 ?sa_83) ?a_83 ?i_83 ?l_83 ?c_83 ?k_83;(case aC_83=>k_is);(case pg_83=>k_is);(case hd_83=>k_is);(case po_83=>k_is);(case sa_83=>k_is);(case a_83=>k_is);(case i_83=>k_is);(case l_83=>k_is);(case c_83=>k_is);(case k_83=>k_is)
   have uhw:F.HasDef (L2.KOf KX) mg "parts" Pg.s_parts 0:=by refine' F.has_def KX G ?a_84 ?l_84 ?c_84 ?k_84;(case a_84=>k_is);(case l_84=>k_is);(case c_84=>k_is);(case k_84=>k_is)
   have ueb:F.HasDef (L2.KOf KX) mg "lifted_left" Pg.s_lifted_left 0:=by refine' F.has_def KX G ?a_85 ?l_85 ?c_85 ?k_85;(case a_85=>k_is);(case l_85=>k_is);(case c_85=>k_is);(case k_85=>k_is)
   have udw:F.HasDef (L2.KOf KX) mg "lifted_right" Pg.s_lifted_right 0:=by refine' F.has_def KX G ?a_86 ?l_86 ?c_86 ?k_86;(case a_86=>k_is);(case l_86=>k_is);(case c_86=>k_is);(case k_86=>k_is)
   have ugo:F.HasDef (L2.KOf KX) mg "balanced" Pg.s_balanced 0:=by refine' F.has_def KX G ?a_87 ?l_87 ?c_87 ?k_87;(case a_87=>k_is);(case l_87=>k_is);(case c_87=>k_is);(case k_87=>k_is)
   have uho:F.HasDef (L2.KOf KX) mg "joined" Pg.s_joined 0:=by refine' F.has_def KX G ?a_88 ?l_88 ?c_88 ?k_88;(case a_88=>k_is);(case l_88=>k_is);(case c_88=>k_is);(case k_88=>k_is)
   have ufr:F.HasDef (L2.KOf KX) mg "cut_ahead" Pg.s_cut_ahead 0:=by refine' F.has_def KX G ?a_89 ?l_89 ?c_89 ?k_89;(case a_89=>k_is);(case l_89=>k_is);(case c_89=>k_is);(case k_89=>k_is)
   have uii:F.HasDef (L2.KOf KX) mg "cut" Pg.s_cut 0:=by refine' F.has_def KX G ?a_90 ?l_90 ?c_90 ?k_90;(case a_90=>k_is);(case l_90=>k_is);(case c_90=>k_is);(case k_90=>k_is)
   have uf7:F.HasMth (L2.KOf KX) mg "Shelf" "cut" "Shelf.cut" Pg.s_Shelf_cut:=by refine' F.has_mth KX G ?aC_91 (F.has_cls KX G ?aC_91 ?pg_91 ?hd_91 ?po_91 ?sa_91) ?a_91 ?i_91 ?l_91 ?c_91 ?k_91;(case aC_91=>k_is);(case pg_91=>k_is);(case hd_91=>k_is);(case po_91=>k_is);(case sa_91=>k_is);(case a_91=>k_is);(case i_91=>k_is);(case l_91=>k_is);(case c_91=>k_is);(case k_91=>k_is)
   have ue6:F.HasMth (L2.KOf KX) mg "Shelf" "make" "Shelf.make" Pg.s_Shelf_make:=by refine' F.has_mth KX G ?aC_92 (F.has_cls KX G ?aC_92 ?pg_92 ?hd_92 ?po_92 ?sa_92) ?a_92 ?i_92 ?l_92 ?c_92 ?k_92;(case aC_92=>k_is);(case pg_92=>k_is);(case hd_92=>k_is);(case po_92=>k_is);(case sa_92=>k_is);(case a_92=>k_is);(case i_92=>k_is);(case l_92=>k_is);(case c_92=>k_is);(case k_92=>k_is)
   have uib:F.HasDef (L2.KOf KX) mg "seen" Pg.s_seen 0:=by refine' F.has_def KX G ?a_93 ?l_93 ?c_93 ?k_93;(case a_93=>k_is);(case l_93=>k_is);(case c_93=>k_is);(case k_93=>k_is)
   have uhn:F.HasDef (L2.KOf KX) mg "gather" Pg.s_gather 0:=by refine' F.has_def KX G ?a_94 ?l_94 ?c_94 ?k_94;(case a_94=>k_is);(case l_94=>k_is);(case c_94=>k_is);(case k_94=>k_is)
   have ufn:F.HasDef (L2.KOf KX) mg "things_of" Pg.s_things_of 0:=by refine' F.has_def KX G ?a_95 ?l_95 ?c_95 ?k_95;(case a_95=>k_is);(case l_95=>k_is);(case c_95=>k_is);(case k_95=>k_is)
   have udk:F.HasMth (L2.KOf KX) mg "Shelf" "things" "Shelf.things" Pg.s_Shelf_things:=by refine' F.has_mth KX G ?aC_96 (F.has_cls KX G ?aC_96 ?pg_96 ?hd_96 ?po_96 ?sa_96) ?a_96 ?i_96 ?l_96 ?c_96 ?k_96;(case aC_96=>k_is);(case pg_96=>k_is);(case hd_96=>k_is);(case po_96=>k_is);(case sa_96=>k_is);(case a_96=>k_is);(case i_96=>k_is);(case l_96=>k_is);(case c_96=>k_is);(case k_96=>k_is)
   have udc:F.HasMk (L2.KOf KX) mg "Wood" "Wood.__init__" Pg.s_Wood___init__ 1:=by refine' F.has_mk1 KX G ?aC_97 ?mk_97 ?kc_97 ?a_97 ?i_97 ?l_97 ?c_97 ?k_97 ?t_97;(case aC_97=>k_is);(case mk_97=>k_is);(case kc_97=>k_is);(case a_97=>k_is);(case i_97=>k_is);(case l_97=>k_is);(case c_97=>k_is);(case k_97=>k_is);(case t_97=>k_is)
   have ugk:F.HasDef (L2.KOf KX) mg "_law_due" Pg.s__law_due 0:=by refine' F.has_def KX G ?a_98 ?l_98 ?c_98 ?k_98;(case a_98=>k_is);(case l_98=>k_is);(case c_98=>k_is);(case k_98=>k_is)
   have ud8:F.HasMth (L2.KOf KX) mg "Shelf" "deeds" "Shelf.deeds" Pg.s_Shelf_deeds:=by refine' F.has_mth KX G ?aC_99 (F.has_cls KX G ?aC_99 ?pg_99 ?hd_99 ?po_99 ?sa_99) ?a_99 ?i_99 ?l_99 ?c_99 ?k_99;(case aC_99=>k_is);(case pg_99=>k_is);(case hd_99=>k_is);(case po_99=>k_is);(case sa_99=>k_is);(case a_99=>k_is);(case i_99=>k_is);(case l_99=>k_is);(case c_99=>k_is);(case k_99=>k_is)
   have ubp:F.HasMth (L2.KOf KX) mg "AsItStands" "new_deeds" "Walker.new_deeds" Pg.s_AsItStands_new_deeds:=by refine' F.has_mth KX G ?aC_100 (F.has_cls KX G ?aC_100 ?pg_100 ?hd_100 ?po_100 ?sa_100) ?a_100 ?i_100 ?l_100 ?c_100 ?k_100;(case aC_100=>k_is);(case pg_100=>k_is);(case hd_100=>k_is);(case po_100=>k_is);(case sa_100=>k_is);(case a_100=>k_is);(case i_100=>k_is);(case l_100=>k_is);(case c_100=>k_is);(case k_100=>k_is)
   have uhv:F.HasDef (L2.KOf KX) mg "moved" Pg.s_moved 0:=by refine' F.has_def KX G ?a_101 ?l_101 ?c_101 ?k_101;(case a_101=>k_is);(case l_101=>k_is);(case c_101=>k_is);(case k_101=>k_is)
   have ucu:F.HasMth (L2.KOf KX) mg "AsItStands" "row" "AsItStands.row" Pg.s_AsItStands_row:=by refine' F.has_mth KX G ?aC_102 (F.has_cls KX G ?aC_102 ?pg_102 ?hd_102 ?po_102 ?sa_102) ?a_102 ?i_102 ?l_102 ?c_102 ?k_102;(case aC_102=>k_is);(case pg_102=>k_is);(case hd_102=>k_is);(case po_102=>k_is);(case sa_102=>k_is);(case a_102=>k_is);(case i_102=>k_is);(case l_102=>k_is);(case c_102=>k_is);(case k_102=>k_is)
   have ucd:F.HasMth (L2.KOf KX) mg "AsItStands" "more" "Walker.more" Pg.s_AsItStands_more:=by refine' F.has_mth KX G ?aC_103 (F.has_cls KX G ?aC_103 ?pg_103 ?hd_103 ?po_103 ?sa_103) ?a_103 ?i_103 ?l_103 ?c_103 ?k_103;(case aC_103=>k_is);(case pg_103=>k_is);(case hd_103=>k_is);(case po_103=>k_is);(case sa_103=>k_is);(case a_103=>k_is);(case i_103=>k_is);(case l_103=>k_is);(case c_103=>k_is);(case k_103=>k_is)
   have ugw:F.HasDef (L2.KOf KX) mg "thing_at" Pg.s_thing_at 0:=by refine' F.has_def KX G ?a_104 ?l_104 ?c_104 ?k_104;(case a_104=>k_is);(case l_104=>k_is);(case c_104=>k_is);(case k_104=>k_is)
   have uix:F.HasDef (L2.KOf KX) mg "at" Pg.s_at 0:=by refine' F.has_def KX G ?a_105 ?l_105 ?c_105 ?k_105;(case a_105=>k_is);(case l_105=>k_is);(case c_105=>k_is);(case k_105=>k_is)
   have ucc:F.HasMth (L2.KOf KX) mg "AsItStands" "step" "Walker.step" Pg.s_AsItStands_step:=by refine' F.has_mth KX G ?aC_106 (F.has_cls KX G ?aC_106 ?pg_106 ?hd_106 ?po_106 ?sa_106) ?a_106 ?i_106 ?l_106 ?c_106 ?k_106;(case aC_106=>k_is);(case pg_106=>k_is);(case hd_106=>k_is);(case po_106=>k_is);(case sa_106=>k_is);(case a_106=>k_is);(case i_106=>k_is);(case l_106=>k_is);(case c_106=>k_is);(case k_106=>k_is)
   have uc7:F.HasMth (L2.KOf KX) mg "AsItStood" "row" "Walker.row" Pg.s_AsItStood_row:=by refine' F.has_mth KX G ?aC_107 (F.has_cls KX G ?aC_107 ?pg_107 ?hd_107 ?po_107 ?sa_107) ?a_107 ?i_107 ?l_107 ?c_107 ?k_107;(case aC_107=>k_is);(case pg_107=>k_is);(case hd_107=>k_is);(case po_107=>k_is);(case sa_107=>k_is);(case a_107=>k_is);(case i_107=>k_is);(case l_107=>k_is);(case c_107=>k_is);(case k_107=>k_is)
   have ucx:F.HasMth (L2.KOf KX) mg "AsItStood" "more" "Walker.more" Pg.s_AsItStood_more:=by refine' F.has_mth KX G ?aC_108 (F.has_cls KX G ?aC_108 ?pg_108 ?hd_108 ?po_108 ?sa_108) ?a_108 ?i_108 ?l_108 ?c_108 ?k_108;(case aC_108=>k_is);(case pg_108=>k_is);(case hd_108=>k_is);(case po_108=>k_is);(case sa_108=>k_is);(case a_108=>k_is);(case i_108=>k_is);(case l_108=>k_is);(case c_108=>k_is);(case k_108=>k_is)
   have uc2:F.HasMth (L2.KOf KX) mg "AsItStood" "step" "Walker.step" Pg.s_AsItStood_step:=by refine' F.has_mth KX G ?aC_109 (F.has_cls KX G ?aC_109 ?pg_109 ?hd_109 ?po_109 ?sa_109) ?a_109 ?i_109 ?l_109 ?c_109 ?k_109;(case aC_109=>k_is);(case pg_109=>k_is);(case hd_109=>k_is);(case po_109=>k_is);(case sa_109=>k_is);(case a_109=>k_is);(case i_109=>k_is);(case l_109=>k_is);(case c_109=>k_is);(case k_109=>k_is)
   have ucb:F.HasMth (L2.KOf KX) mg "Strict" "new_deeds" "Walker.new_deeds" Pg.s_Strict_new_deeds:=by refine' F.has_mth KX G ?aC_110 (F.has_cls KX G ?aC_110 ?pg_110 ?hd_110 ?po_110 ?sa_110) ?a_110 ?i_110 ?l_110 ?c_110 ?k_110;(case aC_110=>k_is);(case pg_110=>k_is);(case hd_110=>k_is);(case po_110=>k_is);(case sa_110=>k_is);(case a_110=>k_is);(case i_110=>k_is);(case l_110=>k_is);(case c_110=>k_is);(case k_110=>k_is)
   have ue8:F.HasMth (L2.KOf KX) mg "Strict" "row" "Strict.row" Pg.s_Strict_row:=by refine' F.has_mth KX G ?aC_111 (F.has_cls KX G ?aC_111 ?pg_111 ?hd_111 ?po_111 ?sa_111) ?a_111 ?i_111 ?l_111 ?c_111 ?k_111;(case aC_111=>k_is);(case pg_111=>k_is);(case hd_111=>k_is);(case po_111=>k_is);(case sa_111=>k_is);(case a_111=>k_is);(case i_111=>k_is);(case l_111=>k_is);(case c_111=>k_is);(case k_111=>k_is)
   have uej:F.HasMth (L2.KOf KX) mg "Strict" "more" "Walker.more" Pg.s_Strict_more:=by refine' F.has_mth KX G ?aC_112 (F.has_cls KX G ?aC_112 ?pg_112 ?hd_112 ?po_112 ?sa_112) ?a_112 ?i_112 ?l_112 ?c_112 ?k_112;(case aC_112=>k_is);(case pg_112=>k_is);(case hd_112=>k_is);(case po_112=>k_is);(case sa_112=>k_is);(case a_112=>k_is);(case i_112=>k_is);(case l_112=>k_is);(case c_112=>k_is);(case k_112=>k_is)
   have udy:F.HasMth (L2.KOf KX) mg "Strict" "step" "Walker.step" Pg.s_Strict_step:=by refine' F.has_mth KX G ?aC_113 (F.has_cls KX G ?aC_113 ?pg_113 ?hd_113 ?po_113 ?sa_113) ?a_113 ?i_113 ?l_113 ?c_113 ?k_113;(case aC_113=>k_is);(case pg_113=>k_is);(case hd_113=>k_is);(case po_113=>k_is);(case sa_113=>k_is);(case a_113=>k_is);(case i_113=>k_is);(case l_113=>k_is);(case c_113=>k_is);(case k_113=>k_is)
   have ufg:F.HasDef (L2.KOf KX) mg "_law_heard" Pg.s__law_heard 0:=by refine' F.has_def KX G ?a_114 ?l_114 ?c_114 ?k_114;(case a_114=>k_is);(case l_114=>k_is);(case c_114=>k_is);(case k_114=>k_is)
   have ufj:F.HasDef (L2.KOf KX) mg "_law_asked" Pg.s__law_asked 0:=by refine' F.has_def KX G ?a_115 ?l_115 ?c_115 ?k_115;(case a_115=>k_is);(case l_115=>k_is);(case c_115=>k_is);(case k_115=>k_is)
   have ubt:F.HasMk (L2.KOf KX) mg "AsItStands" "Walker.__init__" Pg.s_AsItStands___init__ 0:=by refine' F.has_mk KX G ?aC_116 ?mk_116 ?kc_116 ?a_116 ?i_116 ?l_116 ?c_116 ?k_116;(case aC_116=>k_is);(case mk_116=>k_is);(case kc_116=>k_is);(case a_116=>k_is);(case i_116=>k_is);(case l_116=>k_is);(case c_116=>k_is);(case k_116=>k_is)
   have ubz:F.HasMk (L2.KOf KX) mg "AsItStood" "Walker.__init__" Pg.s_AsItStood___init__ 0:=by refine' F.has_mk KX G ?aC_117 ?mk_117 ?kc_117 ?a_117 ?i_117 ?l_117 ?c_117 ?k_117;(case aC_117=>k_is);(case mk_117=>k_is);(case kc_117=>k_is);(case a_117=>k_is);(case i_117=>k_is);(case l_117=>k_is);(case c_117=>k_is);(case k_117=>k_is)
   have ucl:F.HasMk (L2.KOf KX) mg "Strict" "Walker.__init__" Pg.s_Strict___init__ 0:=by refine' F.has_mk KX G ?aC_118 ?mk_118 ?kc_118 ?a_118 ?i_118 ?l_118 ?c_118 ?k_118;(case aC_118=>k_is);(case mk_118=>k_is);(case kc_118=>k_is);(case a_118=>k_is);(case i_118=>k_is);(case l_118=>k_is);(case c_118=>k_is);(case k_118=>k_is)
   have uex:F.HasDef (L2.KOf KX) mg "_law_begun" Pg.s__law_begun 0:=by refine' F.has_def KX G ?a_119 ?l_119 ?c_119 ?k_119;(case a_119=>k_is);(case l_119=>k_is);(case c_119=>k_is);(case k_119=>k_is)
   have ufl:F.HasDef (L2.KOf KX) mg "_law_mark" Pg.s__law_mark 0:=by refine' F.has_def KX G ?a_120 ?l_120 ?c_120 ?k_120;(case a_120=>k_is);(case l_120=>k_is);(case c_120=>k_is);(case k_120=>k_is)
   have udz:F.HasDef (L2.KOf KX) mg "_law_behind" Pg.s__law_behind 0:=by refine' F.has_def KX G ?a_121 ?l_121 ?c_121 ?k_121;(case a_121=>k_is);(case l_121=>k_is);(case c_121=>k_is);(case k_121=>k_is)
   have ugf:F.HasDef (L2.KOf KX) mg "_law_cell" Pg.s__law_cell 0:=by refine' F.has_def KX G ?a_122 ?l_122 ?c_122 ?k_122;(case a_122=>k_is);(case l_122=>k_is);(case c_122=>k_is);(case k_122=>k_is)
   have ufd:F.HasMth (L2.KOf KX) mg "Shelf" "back" "Shelf.back" Pg.s_Shelf_back:=by refine' F.has_mth KX G ?aC_123 (F.has_cls KX G ?aC_123 ?pg_123 ?hd_123 ?po_123 ?sa_123) ?a_123 ?i_123 ?l_123 ?c_123 ?k_123;(case aC_123=>k_is);(case pg_123=>k_is);(case hd_123=>k_is);(case po_123=>k_is);(case sa_123=>k_is);(case a_123=>k_is);(case i_123=>k_is);(case l_123=>k_is);(case c_123=>k_is);(case k_123=>k_is)
   have udd:F.HasDef (L2.KOf KX) mg "laid_together" Pg.s_laid_together 0:=by refine' F.has_def KX G ?a_124 ?l_124 ?c_124 ?k_124;(case a_124=>k_is);(case l_124=>k_is);(case c_124=>k_is);(case k_124=>k_is)
   have ugg:F.HasDef (L2.KOf KX) mg "taken_out" Pg.s_taken_out 0:=by refine' F.has_def KX G ?a_125 ?l_125 ?c_125 ?k_125;(case a_125=>k_is);(case l_125=>k_is);(case c_125=>k_is);(case k_125=>k_is)
   have uiq:F.HasDef (L2.KOf KX) mg "out" Pg.s_out 0:=by refine' F.has_def KX G ?a_126 ?l_126 ?c_126 ?k_126;(case a_126=>k_is);(case l_126=>k_is);(case c_126=>k_is);(case k_126=>k_is)
   have ufq:F.HasMth (L2.KOf KX) mg "Shelf" "out" "Shelf.out" Pg.s_Shelf_out:=by refine' F.has_mth KX G ?aC_127 (F.has_cls KX G ?aC_127 ?pg_127 ?hd_127 ?po_127 ?sa_127) ?a_127 ?i_127 ?l_127 ?c_127 ?k_127;(case aC_127=>k_is);(case pg_127=>k_is);(case hd_127=>k_is);(case po_127=>k_is);(case sa_127=>k_is);(case a_127=>k_is);(case i_127=>k_is);(case l_127=>k_is);(case c_127=>k_is);(case k_127=>k_is)
   have uhz:F.HasDef (L2.KOf KX) mg "given" Pg.s_given 0:=by refine' F.has_def KX G ?a_128 ?l_128 ?c_128 ?k_128;(case a_128=>k_is);(case l_128=>k_is);(case c_128=>k_is);(case k_128=>k_is)
   have uha:F.HasDef (L2.KOf KX) mg "swapped" Pg.s_swapped 0:=by refine' F.has_def KX G ?a_129 ?l_129 ?c_129 ?k_129;(case a_129=>k_is);(case l_129=>k_is);(case c_129=>k_is);(case k_129=>k_is)
   have ue3:F.HasMth (L2.KOf KX) mg "Shelf" "swap" "Shelf.swap" Pg.s_Shelf_swap:=by refine' F.has_mth KX G ?aC_130 (F.has_cls KX G ?aC_130 ?pg_130 ?hd_130 ?po_130 ?sa_130) ?a_130 ?i_130 ?l_130 ?c_130 ?k_130;(case aC_130=>k_is);(case pg_130=>k_is);(case hd_130=>k_is);(case po_130=>k_is);(case sa_130=>k_is);(case a_130=>k_is);(case i_130=>k_is);(case l_130=>k_is);(case c_130=>k_is);(case k_130=>k_is)
   have udi:F.HasDef (L2.KOf KX) mg "check_stretch" Pg.s_check_stretch 0:=by refine' F.has_def KX G ?a_131 ?l_131 ?c_131 ?k_131;(case a_131=>k_is);(case l_131=>k_is);(case c_131=>k_is);(case k_131=>k_is)
   have uek:F.HasDef (L2.KOf KX) mg "turned_part" Pg.s_turned_part 0:=by refine' F.has_def KX G ?a_132 ?l_132 ?c_132 ?k_132;(case a_132=>k_is);(case l_132=>k_is);(case c_132=>k_is);(case k_132=>k_is)
   have udr:F.HasMth (L2.KOf KX) mg "Shelf" "turned" "Shelf.turned" Pg.s_Shelf_turned:=by refine' F.has_mth KX G ?aC_133 (F.has_cls KX G ?aC_133 ?pg_133 ?hd_133 ?po_133 ?sa_133) ?a_133 ?i_133 ?l_133 ?c_133 ?k_133;(case aC_133=>k_is);(case pg_133=>k_is);(case hd_133=>k_is);(case po_133=>k_is);(case sa_133=>k_is);(case a_133=>k_is);(case i_133=>k_is);(case l_133=>k_is);(case c_133=>k_is);(case k_133=>k_is)
   have uie:F.HasDef (L2.KOf KX) mg "laid" Pg.s_laid 0:=by refine' F.has_def KX G ?a_134 ?l_134 ?c_134 ?k_134;(case a_134=>k_is);(case l_134=>k_is);(case c_134=>k_is);(case k_134=>k_is)
   have ue5:F.HasMth (L2.KOf KX) mg "Shelf" "laid" "Shelf.laid" Pg.s_Shelf_laid:=by refine' F.has_mth KX G ?aC_135 (F.has_cls KX G ?aC_135 ?pg_135 ?hd_135 ?po_135 ?sa_135) ?a_135 ?i_135 ?l_135 ?c_135 ?k_135;(case aC_135=>k_is);(case pg_135=>k_is);(case hd_135=>k_is);(case po_135=>k_is);(case sa_135=>k_is);(case a_135=>k_is);(case i_135=>k_is);(case l_135=>k_is);(case c_135=>k_is);(case k_135=>k_is)
   have ufs:F.HasDef (L2.KOf KX) mg "_law_laid" Pg.s__law_laid 0:=by refine' F.has_def KX G ?a_136 ?l_136 ?c_136 ?k_136;(case a_136=>k_is);(case l_136=>k_is);(case c_136=>k_is);(case k_136=>k_is)
   have uhp:F.HasDef (L2.KOf KX) mg "put_in" Pg.s_put_in 0:=by refine' F.has_def KX G ?a_137 ?l_137 ?c_137 ?k_137;(case a_137=>k_is);(case l_137=>k_is);(case c_137=>k_is);(case k_137=>k_is)
   have uiw:F.HasDef (L2.KOf KX) mg "put" Pg.s_put 0:=by refine' F.has_def KX G ?a_138 ?l_138 ?c_138 ?k_138;(case a_138=>k_is);(case l_138=>k_is);(case c_138=>k_is);(case k_138=>k_is)
   have ufm:F.HasMth (L2.KOf KX) mg "Shelf" "put" "Shelf.put" Pg.s_Shelf_put:=by refine' F.has_mth KX G ?aC_139 (F.has_cls KX G ?aC_139 ?pg_139 ?hd_139 ?po_139 ?sa_139) ?a_139 ?i_139 ?l_139 ?c_139 ?k_139;(case aC_139=>k_is);(case pg_139=>k_is);(case hd_139=>k_is);(case po_139=>k_is);(case sa_139=>k_is);(case a_139=>k_is);(case i_139=>k_is);(case l_139=>k_is);(case c_139=>k_is);(case k_139=>k_is)
   have uei:F.HasDef (L2.KOf KX) mg "_law_put_in" Pg.s__law_put_in 0:=by refine' F.has_def KX G ?a_140 ?l_140 ?c_140 ?k_140;(case a_140=>k_is);(case l_140=>k_is);(case c_140=>k_is);(case k_140=>k_is)
   have ugb:F.HasDef (L2.KOf KX) mg "_law_done" Pg.s__law_done 0:=by refine' F.has_def KX G ?a_141 ?l_141 ?c_141 ?k_141;(case a_141=>k_is);(case l_141=>k_is);(case c_141=>k_is);(case k_141=>k_is)
   have uip:F.HasDef (L2.KOf KX) mg "law" Pg.s_law 0:=by refine' F.has_def KX G ?a_142 ?l_142 ?c_142 ?k_142;(case a_142=>k_is);(case l_142=>k_is);(case c_142=>k_is);(case k_142=>k_is)
   obtain⟨fa',fd,hm,hb,hF⟩:=Pg.law_all (P:=(PySem.Challenge.rw_ownshelf_k44_whole_walkers_together).prog) (w:=w) ⟨uio,uit,uez,uik,uh6,uij,uh0,ugt,uhr,uh2,uh9,uhj,uhf,uig,uhe,uec,uh3,uh7,uht,uh1,uhg,uce,ucy,uca,ub9,ucr,uc9,ucg,ucf,ue7,uev,ue9,uea,ufk,udl,udv,ud2,uco,hov_Walker,ho_AsItStands_Walker,ho_AsItStood_Walker,ho_Strict_Walker,uhh,hxi_Changed,hxf_Changed_deed,hct_Changed,hno_Changed,hct_NoMore,hno_NoMore,hal_cut_rows,hal_laid_rows,hal_out_rows,hal_put_rows,uc8,ueu,uhi,udu,ue2,uia,uff,uh5,udq,uhy,ufb,ue0,uga,uhs,ug9,ucv,ue1,ud9,ud7,uhw,ueb,udw,ugo,uho,ufr,uii,uf7,ue6,uib,uhn,ufn,udk,udc,ugk,ud8,ubp,uhv,ucu,ucd,ugw,uix,ucc,uc7,ucx,uc2,ucb,ue8,uej,udy,ufg,ufj,ubt,ubz,ucl,uex,ufl,udz,ugf,ufd,udd,ugg,uiq,ufq,uhz,uha,ue3,udi,uek,udr,uie,ue5,ufs,uhp,uiw,ufm,uei,ugb,uip⟩;have e:=hmg.symm.trans hm;cases e;exact⟨fd,hb,fun base _ _=>hF base⟩
