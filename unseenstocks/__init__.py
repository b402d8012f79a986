"""What all shops have in common that fit what was seen of their work."""
