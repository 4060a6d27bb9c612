"""Tables that overlap: several views of a few questions each, where they agree, and which worlds fit them."""
