"""Tables that overlap: several views of a few questions each, and whether they agree."""
