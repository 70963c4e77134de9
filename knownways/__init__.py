"""Claims about programs of unknown steps, of which only the ways are known."""
